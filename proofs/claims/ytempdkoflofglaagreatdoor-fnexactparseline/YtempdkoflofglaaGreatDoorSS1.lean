import Derived.Test.YtempdkoflofglaaGreatDoorSB
namespace Go.Proofs.YtempdkoflofglaaGreatDoor
open Go.RowKit

theorem infoS : (Tryz.prog.info? 9).map (fun i => (i.zero, i.size, i.bytes)) = some (some (.string ByteArray.empty), 1, 16) := by kernel_rfl

/-- the text at place i -/
def txt (zs : List ByteArray) (i : Nat) : ByteArray := zs.getD i ByteArray.empty

/-- the slice value v reads in w as the texts zs -/
def SRd (w : World) (v : Value) (zs : List ByteArray) : Prop :=
  ∃ a cap, v = .slice a zs.length cap ∧ (0 < zs.length → ∃ b off, a = some ⟨b, off, none⟩ ∧ ∀ i, i < zs.length → w.cell? ⟨b, off + i, none⟩ = some (.string (txt zs i)))

theorem SRd.kept {w w' : World} {v : Value} {zs : List ByteArray} (h : SRd w v zs) (k : ∀ b o, b < w.heap.size → w'.cell? ⟨b, o, none⟩ = w.cell? ⟨b, o, none⟩) : SRd w' v zs := by
  obtain ⟨a, cap, hv, hc⟩ := h
  refine ⟨a, cap, hv, fun hp => ?_⟩
  obtain ⟨b, off, ha, hcell⟩ := hc hp
  exact ⟨b, off, ha, fun i hi => (k b _ (World.block_lt_of_cell? _ _ (hcell i hi))).trans (hcell i hi)⟩

theorem SRd.below {w w' : World} {v : Value} {zs : List ByteArray} (h : SRd w v zs) (k : Below w.heap.size w w') : SRd w' v zs :=
  h.kept fun b o hb => k.cell (p := ⟨b, o, none⟩) hb

theorem SRd.nil (w : World) : SRd w (.slice none 0 0) [] := ⟨none, 0, rfl, fun h => by simp at h⟩

/-- .. its cells lie in blocks from lo up to hi and may be written -/
def SOwn (lo hi : Nat) (w : World) (v : Value) (zs : List ByteArray) : Prop :=
  ∃ a cap, v = .slice a zs.length cap ∧ (0 < zs.length → ∃ b off, a = some ⟨b, off, none⟩ ∧ lo ≤ b ∧ b < hi ∧ b < w.heap.size ∧ ∀ i, i < zs.length → w.cell? ⟨b, off + i, none⟩ = some (.string (txt zs i)) ∧ w.frozen? ⟨b, off + i, none⟩ = false)

theorem SOwn.rd {lo hi : Nat} {w : World} {v : Value} {zs : List ByteArray} (h : SOwn lo hi w v zs) : SRd w v zs := by
  obtain ⟨a, cap, hv, hc⟩ := h
  refine ⟨a, cap, hv, fun hp => ?_⟩
  obtain ⟨b, off, ha, _, _, _, hcell⟩ := hc hp
  exact ⟨b, off, ha, fun i hi => (hcell i hi).1⟩

theorem SOwn.nil (lo hi : Nat) (w : World) : SOwn lo hi w (.slice none 0 0) [] := ⟨none, 0, rfl, fun h => by simp at h⟩

theorem SOwn.kept {lo hi : Nat} {w w' : World} {v : Value} {zs : List ByteArray} (h : SOwn lo hi w v zs) (hs : w.heap.size ≤ w'.heap.size) (k : ∀ b, lo ≤ b → b < hi → b < w.heap.size → w'.heap[b]? = w.heap[b]?) : SOwn lo hi w' v zs := by
  obtain ⟨a, cap, hv, hc⟩ := h
  refine ⟨a, cap, hv, fun hp => ?_⟩
  obtain ⟨b, off, ha, h1, h2, h3, hcell⟩ := hc hp
  have e := k b h1 h2 h3
  refine ⟨b, off, ha, h1, h2, by omega, fun i hi => ?_⟩
  rw [World.cell?_of_block (w := w) (w' := w') (a := ⟨b, off + i, none⟩) e, World.frozen?_of_block (w := w) (w' := w') (a := ⟨b, off + i, none⟩) e]
  exact hcell i hi

theorem SOwn.below {lo hi : Nat} {w w' : World} {v : Value} {zs : List ByteArray} (h : SOwn lo hi w v zs) (k : Below w.heap.size w w') : SOwn lo hi w' v zs :=
  h.kept k.size fun b _ _ h3 => k.block b h3

theorem SOwn.upd {lo hi lo' hi' : Nat} {w w' : World} {v : Value} {zs : List ByteArray} (h : SOwn lo hi w v zs) (k : Upd lo' hi' w w') (hd : hi ≤ lo' ∨ hi' ≤ lo) : SOwn lo hi w' v zs :=
  h.kept k.size fun b h1 h2 h3 => k.block b h3 (by omega)

theorem SOwn.wider {lo hi lo' hi' : Nat} {w : World} {v : Value} {zs : List ByteArray} (h : SOwn lo hi w v zs) (h1 : lo' ≤ lo) (h2 : hi ≤ hi') : SOwn lo' hi' w v zs := by
  obtain ⟨a, cap, hv, hc⟩ := h
  refine ⟨a, cap, hv, fun hp => ?_⟩
  obtain ⟨b, off, ha, g1, g2, g3, hcell⟩ := hc hp
  exact ⟨b, off, ha, by omega, by omega, g3, hcell⟩

/-- a new row of the texts zs -/
theorem SOwn.made (w : World) (zs : List ByteArray) (n : Nat) (hn : n = zs.length) : SOwn w.heap.size (w.heap.size + 1) (w.alloc (.cells (zs.map Value.string).toArray 9)) (.slice (some ⟨w.heap.size, 0, none⟩) n n) zs := by
  subst hn
  refine ⟨_, _, rfl, fun _ => ⟨_, _, rfl, Nat.le_refl _, Nat.lt_succ_self _, by simp, fun i hi => ?_⟩⟩
  rw [World.cell?_alloc_at _ _ _ _ rfl, World.frozen?_alloc_at _ _ _ _ rfl]
  simp [txt, hi]

/-- v is a row of the call's own that holds the texts zs -/
def SRow (base : Nat) (w : World) (v : Value) (zs : List ByteArray) : Prop := w.ownsRow base 9 1 v zs.length (zs.map Value.string)

theorem SRow.own {w : World} {base : Nat} {v : Value} {zs : List ByteArray} (h : SRow base w v zs) : SOwn base w.heap.size w v zs := by
  have h' : w.ownsRow base 9 1 v zs.length (zs.map Value.string) := h
  rcases h'.2 with ⟨hv, hn⟩ | ⟨g, cap, cur, hv, hb, hg, hnc, hcm, hcs, htake⟩
  · refine ⟨none, 0, by rw [hv, hn], fun hp => by omega⟩
  · subst hv
    have hlt : g < w.heap.size := by
      by_cases hh : g < w.heap.size
      · exact hh
      · simp [show w.heap.size ≤ g by omega] at hg
    refine ⟨_, _, rfl, fun hp => ⟨g, 0, rfl, hb, hlt, hlt, fun i hi => ?_⟩⟩
    rw [Nat.zero_add]
    refine ⟨?_, h'.frozenAt i⟩
    rw [h'.cellAt i (by omega)]
    simp [txt, hi]

theorem SRow.lit (base : Nat) (w : World) (hb : base ≤ w.heap.size) (g : Nat) (hg : g = w.heap.size) : SRow base (w.alloc (.cells #[] 9)) (.slice (some ⟨g, 0, none⟩) 0 0) [] := by
  subst hg; exact World.ownsRow_lit (e := 9) (size := 1) w #[] 0 hb (by decide) rfl

/-- 'out = append(out, c)' of a text -/
theorem wpList_appendS {ops : Array Oper} {rest : List Oper} {o : Oper} {a : Act} {Q : Exit → Act → World → Prop} (hgd : o.guard = none) (s x : Operand)
    (ho : o.op = .call { callee := .builtin .append, args := #[s, x], argTypes := #[28, 28] })
    {base : Nat} {w0 : World} {v : Value} {zs : List ByteArray} (c : ByteArray) (hown : SRow base w0 v zs) (hs : a.eval s = v) (hx : a.eval x = .slice (some ⟨w0.heap.size, 0, none⟩) 1 1)
    (hlen : zs.length < 4294967296) (hb : base ≤ w0.heap.size)
    (h : ∀ v' w', SRow base w' v' (zs ++ [c]) → Below base w0 w' → w0.heap.size ≤ w'.heap.size → (w0.alloc (.cells #[.string c] 9)).grownBy w' v.ownBlock → wpList Tryz.prog ops Q rest (a.put o.dst v') w') :
    wpList Tryz.prog ops Q (o :: rest) a (w0.alloc (.cells #[.string c] 9)) := by
  obtain ⟨i0, hi, hz0, hz1, hz2⟩ := info_parts infoS
  refine wpList_append_own _ hgd s x 28 ho base 9 i0 (.string ByteArray.empty) 1 16 Tryz.underlying28 hi hz0 hz1 hz2 rfl (by decide) v _ _ hs (World.ownsRow.alloc hown _) ⟨w0.heap.size, 0, none⟩ 1 1 [.string c] hx rfl ?_ ?_ ?_ ?_ ?_ ?_
  · intro j u hj
    match j, hj with
    | 0, hj => simp at hj; subst hj; simp [Addr.add, World.cell?_alloc_at]
  · intro u hu; simp at hu; subst hu; rfl
  · unfold maxLen; omega
  · omega
  · simp; omega
  · intro v' w' h1 h2 _
    have hb1 : Below base w0 w' := ((Below.refl base w0).alloc hb _).grown h2 (by simp; omega) (fun k hk => (World.ownsRow.lt hown k hk).1)
    refine h v' w' ?_ hb1 (by have := h2.size; simp at this; omega) h2
    unfold SRow
    simpa using h1

end Go.Proofs.YtempdkoflofglaaGreatDoor
