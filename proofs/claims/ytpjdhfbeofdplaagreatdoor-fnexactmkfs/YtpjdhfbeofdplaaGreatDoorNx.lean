import Derived.Test.YtpjdhfbeofdplaaGreatDoorIn
namespace Go.Proofs.YtpjdhfbeofdplaaGreatDoor
open Go.RowKit

theorem info64 : (Tryz.prog.info? 2).map (fun i => (i.zero, i.size, i.bytes)) = some (some (.int .i64 0), 1, 8) := by kernel_rfl

/-- the cells that hold the bytes zs -/
def i64s (zs : List Int) : Array Value := (zs.map (Value.int .i64)).toArray

/-- the slice value v reads in w as the bytes zs -/
structure Nts (w : World) (v : Value) (zs : List Int) : Prop where
  small : ∀ i, -9223372036854775808 ≤ zs.getD i 0 ∧ zs.getD i 0 ≤ 9223372036854775807
  shape : ∃ a cap, v = .slice a zs.length cap ∧ (0 < zs.length → ∃ b off, a = some ⟨b, off, none⟩ ∧ ∀ i, i < zs.length → w.cell? ⟨b, off + i, none⟩ = some (.int .i64 (zs.getD i 0)))

theorem Nts.kept {w w' : World} {v : Value} {zs : List Int} (h : Nts w v zs) (k : ∀ b o, b < w.heap.size → w'.cell? ⟨b, o, none⟩ = w.cell? ⟨b, o, none⟩) : Nts w' v zs := by
  obtain ⟨a, cap, hv, hc⟩ := h.shape
  refine ⟨h.small, a, cap, hv, fun hp => ?_⟩
  obtain ⟨b, off, ha, hcell⟩ := hc hp
  exact ⟨b, off, ha, fun i hi => (k b _ (World.block_lt_of_cell? _ _ (hcell i hi))).trans (hcell i hi)⟩

theorem Nts.below {w w' : World} {v : Value} {zs : List Int} (h : Nts w v zs) (k : Below w.heap.size w w') : Nts w' v zs :=
  h.kept fun b o hb => k.cell (p := ⟨b, o, none⟩) hb

theorem Nts.alloc {w : World} {v : Value} {zs : List Int} (h : Nts w v zs) (o : Obj) : Nts (w.alloc o) v zs :=
  h.kept fun _ _ hb => World.cell?_alloc_past _ _ _ hb

/-- a new row of the bytes zs -/
theorem Nts.made (w : World) (zs : List Int) (h : ∀ i, -9223372036854775808 ≤ zs.getD i 0 ∧ zs.getD i 0 ≤ 9223372036854775807) : Nts (w.alloc (.cells (i64s zs) 2)) (.slice (some ⟨w.heap.size, 0, none⟩) zs.length zs.length) zs := by
  refine ⟨h, _, _, rfl, fun _ => ⟨_, _, rfl, fun i hi => ?_⟩⟩
  rw [World.cell?_alloc_at _ _ _ _ rfl]
  simp [i64s, hi]

theorem Nts.made_at (w : World) (zs : List Int) (h : ∀ i, -9223372036854775808 ≤ zs.getD i 0 ∧ zs.getD i 0 ≤ 9223372036854775807) (g : Nat) (hg : g = w.heap.size) : Nts (w.alloc (.cells (i64s zs) 2)) (.slice (some ⟨g, 0, none⟩) zs.length zs.length) zs := by
  subst hg; exact Nts.made w zs h

/-- the first k bytes copied, the rest zero -/
def part64 (zs : List Int) (k : Nat) : Array Value := i64s (zs.take k ++ List.replicate (zs.length - k) 0)

theorem part64_zero (zs : List Int) : madeCells #[.int .i64 0] zs.length = part64 zs 0 := by
  apply Array.toList_inj.1
  rw [toList_madeCells_one]
  simp [part64, i64s]

theorem part64_end (zs : List Int) : part64 zs zs.length = i64s zs := by simp [part64]

theorem part64_at (zs : List Int) (k j : Nat) (hk : k ≤ zs.length) : (part64 zs k)[j]? = if j < k then some (.int .i64 (zs.getD j 0)) else if j < zs.length then some (.int .i64 0) else none := by
  simp only [part64, i64s, List.getElem?_toArray, List.getElem?_map, List.getElem?_append, List.length_take, List.getElem?_replicate, List.getElem?_take]
  by_cases hj : j < k
  · rw [if_pos (show j < min k zs.length by omega), if_pos hj, if_pos hj]
    simp [show j < zs.length by omega]
  · rw [if_neg (show ¬ j < min k zs.length by omega), if_neg hj]
    by_cases hl : j < zs.length
    · rw [if_pos hl, if_pos (show j - min k zs.length < zs.length - k by omega)]; rfl
    · rw [if_neg hl, if_neg (show ¬ j - min k zs.length < zs.length - k by omega)]; rfl

theorem part64_size (zs : List Int) (k : Nat) (hk : k ≤ zs.length) : (part64 zs k).size = zs.length := by
  simp [part64, i64s]; omega

theorem part64_step (zs : List Int) (k : Nat) (h : k < zs.length) : (part64 zs k).setIfInBounds k (.int .i64 (zs.getD k 0)) = part64 zs (k + 1) := by
  apply Array.ext_getElem?
  intro j
  rw [Array.getElem?_setIfInBounds, part64_at zs k j (by omega), part64_at zs (k + 1) j (by omega), part64_size zs k (by omega)]
  by_cases hj : k = j
  · subst hj
    simp [h]
  · rw [if_neg hj]
    by_cases hlt : j < k
    · rw [if_pos hlt, if_pos (by omega)]
    · rw [if_neg hlt, if_neg (show ¬ j < k + 1 by omega)]

theorem part64_get (zs : List Int) (k : Nat) (h : k < zs.length) : (part64 zs k)[k]? = some (.int .i64 0) := by
  rw [part64_at zs k k (by omega), if_neg (by omega), if_pos h]


/-- the slice value v reads in w as the bytes zs; its cells lie in blocks from lo up to hi and may be written -/
structure Own64 (lo hi : Nat) (w : World) (v : Value) (zs : List Int) : Prop where
  small : ∀ i, -9223372036854775808 ≤ zs.getD i 0 ∧ zs.getD i 0 ≤ 9223372036854775807
  shape : ∃ a cap, v = .slice a zs.length cap ∧ (0 < zs.length → ∃ b off, a = some ⟨b, off, none⟩ ∧ lo ≤ b ∧ b < hi ∧ b < w.heap.size ∧ ∀ i, i < zs.length → w.cell? ⟨b, off + i, none⟩ = some (.int .i64 (zs.getD i 0)) ∧ w.frozen? ⟨b, off + i, none⟩ = false)

theorem Own64.nts {lo hi : Nat} {w : World} {v : Value} {zs : List Int} (h : Own64 lo hi w v zs) : Nts w v zs := by
  obtain ⟨a, cap, hv, hc⟩ := h.shape
  refine ⟨h.small, a, cap, hv, fun hp => ?_⟩
  obtain ⟨b, off, ha, _, _, _, hcell⟩ := hc hp
  exact ⟨b, off, ha, fun i hi => (hcell i hi).1⟩

theorem Own64.kept {lo hi : Nat} {w w' : World} {v : Value} {zs : List Int} (h : Own64 lo hi w v zs) (hs : w.heap.size ≤ w'.heap.size) (k : ∀ b, lo ≤ b → b < hi → b < w.heap.size → w'.heap[b]? = w.heap[b]?) : Own64 lo hi w' v zs := by
  obtain ⟨a, cap, hv, hc⟩ := h.shape
  refine ⟨h.small, a, cap, hv, fun hp => ?_⟩
  obtain ⟨b, off, ha, h1, h2, h3, hcell⟩ := hc hp
  have e := k b h1 h2 h3
  refine ⟨b, off, ha, h1, h2, by omega, fun i hi => ?_⟩
  rw [World.cell?_of_block (w := w) (w' := w') (a := ⟨b, off + i, none⟩) e, World.frozen?_of_block (w := w) (w' := w') (a := ⟨b, off + i, none⟩) e]
  exact hcell i hi

theorem Own64.upd {lo hi lo' hi' : Nat} {w w' : World} {v : Value} {zs : List Int} (h : Own64 lo hi w v zs) (k : Upd lo' hi' w w') (hd : hi ≤ lo' ∨ hi' ≤ lo) : Own64 lo hi w' v zs :=
  h.kept k.size fun b h1 h2 h3 => k.block b h3 (by omega)

theorem Own64.below {lo hi : Nat} {w w' : World} {v : Value} {zs : List Int} (h : Own64 lo hi w v zs) (k : Below w.heap.size w w') : Own64 lo hi w' v zs :=
  h.kept k.size fun b _ _ h3 => k.block b h3

theorem Own64.wider {lo hi lo' hi' : Nat} {w : World} {v : Value} {zs : List Int} (h : Own64 lo hi w v zs) (h1 : lo' ≤ lo) (h2 : hi ≤ hi') : Own64 lo' hi' w v zs := by
  obtain ⟨a, cap, hv, hc⟩ := h.shape
  refine ⟨h.small, a, cap, hv, fun hp => ?_⟩
  obtain ⟨b, off, ha, g1, g2, g3, hcell⟩ := hc hp
  exact ⟨b, off, ha, by omega, by omega, g3, hcell⟩

theorem Own64.empty (lo hi : Nat) (w : World) (a : Option Addr) (cap : Nat) : Own64 lo hi w (.slice a 0 cap) [] :=
  ⟨fun i => by simp, a, cap, rfl, fun h => by simp at h⟩

/-- a new row of the bytes zs -/
theorem Own64.made (w : World) (zs : List Int) (h : ∀ i, -9223372036854775808 ≤ zs.getD i 0 ∧ zs.getD i 0 ≤ 9223372036854775807) (g : Nat) (hg : g = w.heap.size) : Own64 g (g + 1) (w.alloc (.cells (i64s zs) 2)) (.slice (some ⟨g, 0, none⟩) zs.length zs.length) zs := by
  subst hg
  refine ⟨h, _, _, rfl, fun _ => ⟨_, _, rfl, Nat.le_refl _, Nat.lt_succ_self _, by simp, fun i hi => ?_⟩⟩
  rw [World.cell?_alloc_at _ _ _ _ rfl, World.frozen?_alloc_at _ _ _ _ rfl]
  simp [i64s, hi]

/-- out of an owned row -/
theorem Own64.of_row {w : World} {base : Nat} {v : Value} {zs : List Int} (h : w.ownsRow base 2 1 v zs.length (zs.map (Value.int .i64))) (hz : ∀ i, -9223372036854775808 ≤ zs.getD i 0 ∧ zs.getD i 0 ≤ 9223372036854775807) : Own64 base w.heap.size w v zs := by
  rcases h.2 with ⟨hv, hn⟩ | ⟨g, cap, cur, hv, hb, hg, hnc, hcm, hcs, htake⟩
  · refine ⟨hz, none, 0, by rw [hv, hn], fun hp => by omega⟩
  · subst hv
    have hlt : g < w.heap.size := by
      by_cases hh : g < w.heap.size
      · exact hh
      · simp [show w.heap.size ≤ g by omega] at hg
    refine ⟨hz, _, _, rfl, fun hp => ⟨g, 0, rfl, hb, hlt, hlt, fun i hi => ?_⟩⟩
    rw [Nat.zero_add]
    refine ⟨?_, h.frozenAt i⟩
    rw [h.cellAt i (by omega)]
    simp [hi]
/-- v is a row of the call's own that holds the bytes zs -/
def Row64 (base : Nat) (w : World) (v : Value) (zs : List Int) : Prop := w.ownsRow base 2 1 v zs.length (zs.map (Value.int .i64))

theorem Row64.own {base : Nat} {w : World} {v : Value} {zs : List Int} (h : Row64 base w v zs) (hz : ∀ i, -9223372036854775808 ≤ zs.getD i 0 ∧ zs.getD i 0 ≤ 9223372036854775807) : Own64 base w.heap.size w v zs := Own64.of_row h hz

theorem Row64.shape {base : Nat} {w : World} {v : Value} {zs : List Int} (h : Row64 base w v zs) : ∃ a cap, v = .slice a zs.length cap := by
  rcases h.2 with ⟨hv, hn⟩ | ⟨g, cap, cur, hv, _⟩
  · exact ⟨none, 0, by rw [hv, hn]⟩
  · exact ⟨_, _, hv⟩

theorem Row64.start (base : Nat) (w : World) : Row64 base w (.slice none 0 0) [] := World.ownsRow_nil w base 2 1

theorem Row64.lit (base : Nat) (w : World) (hb : base ≤ w.heap.size) (g : Nat) (hg : g = w.heap.size) : Row64 base (w.alloc (.cells #[] 2)) (.slice (some ⟨g, 0, none⟩) 0 0) [] := by
  subst hg; exact World.ownsRow_lit (e := 2) (size := 1) w #[] 0 hb (by decide) rfl

/-- 'out = append(out, c)' of a byte -/
theorem wpList_append64 {ops : Array Oper} {rest : List Oper} {o : Oper} {a : Act} {Q : Exit → Act → World → Prop} (hgd : o.guard = none) (s x : Operand)
    (ho : o.op = .call { callee := .builtin .append, args := #[s, x], argTypes := #[44, 44] })
    {base : Nat} {w0 : World} {v : Value} {zs : List Int} (c : Int) (hown : Row64 base w0 v zs) (hs : a.eval s = v) (hx : a.eval x = .slice (some ⟨w0.heap.size, 0, none⟩) 1 1)
    (hlen : zs.length < 8589934592) (hb : base ≤ w0.heap.size)
    (h : ∀ v' w', Row64 base w' v' (zs ++ [c]) → Below base w0 w' → w0.heap.size ≤ w'.heap.size → (w0.alloc (.cells #[.int .i64 c] 2)).grownBy w' v.ownBlock → wpList Tryz.prog ops Q rest (a.put o.dst v') w') :
    wpList Tryz.prog ops Q (o :: rest) a (w0.alloc (.cells #[.int .i64 c] 2)) := by
  obtain ⟨i0, hi, hz0, hz1, hz2⟩ := info_parts info64
  refine wpList_append_own _ hgd s x 44 ho base 2 i0 (.int .i64 0) 1 8 Tryz.underlying44 hi hz0 hz1 hz2 rfl (by decide) v _ _ hs (hown.alloc _) ⟨w0.heap.size, 0, none⟩ 1 1 [.int .i64 c] hx rfl ?_ ?_ ?_ ?_ ?_ ?_
  · intro j u hj
    match j, hj with
    | 0, hj => simp at hj; subst hj; simp [Addr.add, World.cell?_alloc_at]
  · intro u hu; simp at hu; subst hu; rfl
  · unfold maxLen; omega
  · omega
  · simp; omega
  · intro v' w' h1 h2 _
    have hb1 : Below base w0 w' := ((Below.refl base w0).alloc hb _).grown h2 (by simp; omega) (fun k hk => (hown.lt k hk).1)
    refine h v' w' ?_ hb1 (by have := h2.size; simp at this; omega) h2
    unfold Row64
    simpa using h1

theorem Own64.stored {lo hi : Nat} {w : World} {b off n cap : Nat} {zs : List Int} (h : Own64 lo hi w (.slice (some ⟨b, off, none⟩) n cap) zs) (j : Nat) (hj : j < n) (x : Int) (hx : -9223372036854775808 ≤ x ∧ x ≤ 9223372036854775807) :
    Own64 lo hi (w.setCell ⟨b, off + j, none⟩ (.int .i64 x)) (.slice (some ⟨b, off, none⟩) n cap) (zs.set j x) ∧ Upd lo hi w (w.setCell ⟨b, off + j, none⟩ (.int .i64 x)) := by
  obtain ⟨a, cap', hv, hc⟩ := h.shape
  simp only [Value.slice.injEq] at hv
  obtain ⟨rfl, rfl, rfl⟩ := hv
  obtain ⟨b', off', ha, h1, h2, h3, hcell⟩ := hc (by omega)
  simp only [Option.some.injEq, Addr.mk.injEq, and_true] at ha
  obtain ⟨rfl, rfl⟩ := ha
  refine ⟨⟨fun i => ?_, _, _, by rw [List.length_set], fun _ => ⟨b, off, rfl, h1, h2, by simpa using h3, fun i hi => ?_⟩⟩, (Upd.refl _ _ _).setCell h1 h2 _⟩
  · have hs := h.small i
    simp only [List.getD_eq_getElem?_getD] at hs ⊢
    rw [List.getElem?_set]
    by_cases hij : j = i
    · rw [if_pos hij, if_pos (by omega)]; simpa using hx
    · rw [if_neg hij]; exact hs
  · rw [List.length_set] at hi
    have hci := hcell i hi
    refine ⟨?_, by simpa using hci.2⟩
    simp only [List.getD_eq_getElem?_getD]
    rw [List.getElem?_set]
    by_cases hij : j = i
    · subst hij
      rw [if_pos rfl, if_pos hi, World.cell?_setCell_same _ _ _ hci.1]; rfl
    · rw [if_neg hij, World.cell?_setCell_other _ _ _ _ (by intro hh; simp only [Addr.mk.injEq] at hh; omega), hci.1]; rfl

end Go.Proofs.YtpjdhfbeofdplaaGreatDoor
