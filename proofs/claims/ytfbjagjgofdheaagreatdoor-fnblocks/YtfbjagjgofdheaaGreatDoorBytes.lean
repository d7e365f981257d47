import Derived.Test.YtfbjagjgofdheaaGreatDoorRows
import Derived.WalkKit
import Derived.WalkSpells
import Derived.WalkLawsBesides
import Derived.Deep.QuietTactic
import Derived.BigQuiet
import Derived.Deep.OwnRows
namespace Go.Proofs.YtfbjagjgofdheaaGreatDoor
open Go.RowKit

theorem info8 : (Tryz.prog.info? 5).map (fun i => (i.zero, i.size, i.bytes)) = some (some (.int .u8 0), 1, 1) := by kernel_rfl

/-- the cells that hold the bytes zs -/
def u8s (zs : List Int) : Array Value := (zs.map (Value.int .u8)).toArray

/-- the slice value v reads in w as the bytes zs -/
structure Bts (w : World) (v : Value) (zs : List Int) : Prop where
  small : ∀ i, 0 ≤ zs.getD i 0 ∧ zs.getD i 0 < 256
  shape : ∃ a cap, v = .slice a zs.length cap ∧ (0 < zs.length → ∃ b off, a = some ⟨b, off, none⟩ ∧ ∀ i, i < zs.length → w.cell? ⟨b, off + i, none⟩ = some (.int .u8 (zs.getD i 0)))

theorem Bts.kept {w w' : World} {v : Value} {zs : List Int} (h : Bts w v zs) (k : ∀ b o, b < w.heap.size → w'.cell? ⟨b, o, none⟩ = w.cell? ⟨b, o, none⟩) : Bts w' v zs := by
  obtain ⟨a, cap, hv, hc⟩ := h.shape
  refine ⟨h.small, a, cap, hv, fun hp => ?_⟩
  obtain ⟨b, off, ha, hcell⟩ := hc hp
  exact ⟨b, off, ha, fun i hi => (k b _ (World.block_lt_of_cell? _ _ (hcell i hi))).trans (hcell i hi)⟩

theorem Bts.below {w w' : World} {v : Value} {zs : List Int} (h : Bts w v zs) (k : Below w.heap.size w w') : Bts w' v zs :=
  h.kept fun b o hb => k.cell (p := ⟨b, o, none⟩) hb

theorem Bts.alloc {w : World} {v : Value} {zs : List Int} (h : Bts w v zs) (o : Obj) : Bts (w.alloc o) v zs :=
  h.kept fun _ _ hb => World.cell?_alloc_past _ _ _ hb

/-- a new row of the bytes zs -/
theorem Bts.made (w : World) (zs : List Int) (h : ∀ i, 0 ≤ zs.getD i 0 ∧ zs.getD i 0 < 256) : Bts (w.alloc (.cells (u8s zs) 5)) (.slice (some ⟨w.heap.size, 0, none⟩) zs.length zs.length) zs := by
  refine ⟨h, _, _, rfl, fun _ => ⟨_, _, rfl, fun i hi => ?_⟩⟩
  rw [World.cell?_alloc_at _ _ _ _ rfl]
  simp [u8s, hi]

theorem Bts.made_at (w : World) (zs : List Int) (h : ∀ i, 0 ≤ zs.getD i 0 ∧ zs.getD i 0 < 256) (g : Nat) (hg : g = w.heap.size) : Bts (w.alloc (.cells (u8s zs) 5)) (.slice (some ⟨g, 0, none⟩) zs.length zs.length) zs := by
  subst hg; exact Bts.made w zs h

/-- the first k bytes copied, the rest zero -/
def part8 (zs : List Int) (k : Nat) : Array Value := u8s (zs.take k ++ List.replicate (zs.length - k) 0)

theorem part8_zero (zs : List Int) : madeCells #[.int .u8 0] zs.length = part8 zs 0 := by
  apply Array.toList_inj.1
  rw [toList_madeCells_one]
  simp [part8, u8s]

theorem part8_end (zs : List Int) : part8 zs zs.length = u8s zs := by simp [part8]

theorem part8_at (zs : List Int) (k j : Nat) (hk : k ≤ zs.length) : (part8 zs k)[j]? = if j < k then some (.int .u8 (zs.getD j 0)) else if j < zs.length then some (.int .u8 0) else none := by
  simp only [part8, u8s, List.getElem?_toArray, List.getElem?_map, List.getElem?_append, List.length_take, List.getElem?_replicate, List.getElem?_take]
  by_cases hj : j < k
  · rw [if_pos (show j < min k zs.length by omega), if_pos hj, if_pos hj]
    simp [show j < zs.length by omega]
  · rw [if_neg (show ¬ j < min k zs.length by omega), if_neg hj]
    by_cases hl : j < zs.length
    · rw [if_pos hl, if_pos (show j - min k zs.length < zs.length - k by omega)]; rfl
    · rw [if_neg hl, if_neg (show ¬ j - min k zs.length < zs.length - k by omega)]; rfl

theorem part8_size (zs : List Int) (k : Nat) (hk : k ≤ zs.length) : (part8 zs k).size = zs.length := by
  simp [part8, u8s]; omega

theorem part8_step (zs : List Int) (k : Nat) (h : k < zs.length) : (part8 zs k).setIfInBounds k (.int .u8 (zs.getD k 0)) = part8 zs (k + 1) := by
  apply Array.ext_getElem?
  intro j
  rw [Array.getElem?_setIfInBounds, part8_at zs k j (by omega), part8_at zs (k + 1) j (by omega), part8_size zs k (by omega)]
  by_cases hj : k = j
  · subst hj
    simp [h]
  · rw [if_neg hj]
    by_cases hlt : j < k
    · rw [if_pos hlt, if_pos (by omega)]
    · rw [if_neg hlt, if_neg (show ¬ j < k + 1 by omega)]

theorem part8_get (zs : List Int) (k : Nat) (h : k < zs.length) : (part8 zs k)[k]? = some (.int .u8 0) := by
  rw [part8_at zs k k (by omega), if_neg (by omega), if_pos h]

end Go.Proofs.YtfbjagjgofdheaaGreatDoor

namespace Go.Proofs.YtfbjagjgofdheaaGreatDoor
open Go.RowKit

/-- w' is w but for the blocks from lo up to hi -/
structure Upd (lo hi : Nat) (w w' : World) : Prop where
  os : w'.os = w.os
  tape : w'.tape = w.tape
  output : w'.output = w.output
  size : w.heap.size ≤ w'.heap.size
  block : ∀ k, k < w.heap.size → (k < lo ∨ hi ≤ k) → w'.heap[k]? = w.heap[k]?

theorem Upd.refl (lo hi : Nat) (w : World) : Upd lo hi w w := ⟨rfl, rfl, rfl, Nat.le_refl _, fun _ _ _ => rfl⟩

theorem Upd.trans {lo hi : Nat} {a b c : World} (h : Upd lo hi a b) (k : Upd lo hi b c) : Upd lo hi a c :=
  ⟨k.os.trans h.os, k.tape.trans h.tape, k.output.trans h.output, Nat.le_trans h.size k.size, fun i hi' hn => (k.block i (Nat.lt_of_lt_of_le hi' h.size) hn).trans (h.block i hi' hn)⟩

theorem Upd.wider {lo hi lo' hi' : Nat} {w w' : World} (h : Upd lo hi w w') (h1 : lo' ≤ lo) (h2 : hi ≤ hi') : Upd lo' hi' w w' :=
  ⟨h.os, h.tape, h.output, h.size, fun k hk hn => h.block k hk (by omega)⟩

theorem Upd.below {lo hi B : Nat} {w w' : World} (h : Upd lo hi w w') (h1 : B ≤ lo) (h2 : B ≤ w.heap.size) : Below B w w' :=
  ⟨h.os, h.tape, h.output, h.size, fun k hk => h.block k (by omega) (by omega)⟩

theorem Upd.of_below {w w' : World} (lo hi : Nat) (h : Below w.heap.size w w') : Upd lo hi w w' :=
  ⟨h.os, h.tape, h.output, h.size, fun k hk _ => h.block k hk⟩

theorem Upd.drewN {lo hi : Nat} {a w : World} (h : Upd lo hi a w) (n : Nat) : Upd lo hi a (w.drewN n) :=
  h.trans ⟨rfl, rfl, rfl, Nat.le_refl _, fun _ _ _ => rfl⟩

theorem Upd.setCell {lo hi : Nat} {a w : World} (h : Upd lo hi a w) {p : Addr} (h1 : lo ≤ p.block) (h2 : p.block < hi) (u : Value) : Upd lo hi a (w.setCell p u) :=
  h.trans ⟨rfl, rfl, rfl, by simp, fun k _ hn => Below.heap_setCell w p u k (by omega)⟩

/-- the slice value v reads in w as the bytes zs; its cells lie in blocks from lo up to hi and may be written -/
structure Own8 (lo hi : Nat) (w : World) (v : Value) (zs : List Int) : Prop where
  small : ∀ i, 0 ≤ zs.getD i 0 ∧ zs.getD i 0 < 256
  shape : ∃ a cap, v = .slice a zs.length cap ∧ (0 < zs.length → ∃ b off, a = some ⟨b, off, none⟩ ∧ lo ≤ b ∧ b < hi ∧ b < w.heap.size ∧ ∀ i, i < zs.length → w.cell? ⟨b, off + i, none⟩ = some (.int .u8 (zs.getD i 0)) ∧ w.frozen? ⟨b, off + i, none⟩ = false)

theorem Own8.bts {lo hi : Nat} {w : World} {v : Value} {zs : List Int} (h : Own8 lo hi w v zs) : Bts w v zs := by
  obtain ⟨a, cap, hv, hc⟩ := h.shape
  refine ⟨h.small, a, cap, hv, fun hp => ?_⟩
  obtain ⟨b, off, ha, _, _, _, hcell⟩ := hc hp
  exact ⟨b, off, ha, fun i hi => (hcell i hi).1⟩

theorem Own8.kept {lo hi : Nat} {w w' : World} {v : Value} {zs : List Int} (h : Own8 lo hi w v zs) (hs : w.heap.size ≤ w'.heap.size) (k : ∀ b, lo ≤ b → b < hi → b < w.heap.size → w'.heap[b]? = w.heap[b]?) : Own8 lo hi w' v zs := by
  obtain ⟨a, cap, hv, hc⟩ := h.shape
  refine ⟨h.small, a, cap, hv, fun hp => ?_⟩
  obtain ⟨b, off, ha, h1, h2, h3, hcell⟩ := hc hp
  have e := k b h1 h2 h3
  refine ⟨b, off, ha, h1, h2, by omega, fun i hi => ?_⟩
  rw [World.cell?_of_block (w := w) (w' := w') (a := ⟨b, off + i, none⟩) e, World.frozen?_of_block (w := w) (w' := w') (a := ⟨b, off + i, none⟩) e]
  exact hcell i hi

theorem Own8.upd {lo hi lo' hi' : Nat} {w w' : World} {v : Value} {zs : List Int} (h : Own8 lo hi w v zs) (k : Upd lo' hi' w w') (hd : hi ≤ lo' ∨ hi' ≤ lo) : Own8 lo hi w' v zs :=
  h.kept k.size fun b h1 h2 h3 => k.block b h3 (by omega)

theorem Own8.below {lo hi : Nat} {w w' : World} {v : Value} {zs : List Int} (h : Own8 lo hi w v zs) (k : Below w.heap.size w w') : Own8 lo hi w' v zs :=
  h.kept k.size fun b _ _ h3 => k.block b h3

theorem Own8.wider {lo hi lo' hi' : Nat} {w : World} {v : Value} {zs : List Int} (h : Own8 lo hi w v zs) (h1 : lo' ≤ lo) (h2 : hi ≤ hi') : Own8 lo' hi' w v zs := by
  obtain ⟨a, cap, hv, hc⟩ := h.shape
  refine ⟨h.small, a, cap, hv, fun hp => ?_⟩
  obtain ⟨b, off, ha, g1, g2, g3, hcell⟩ := hc hp
  exact ⟨b, off, ha, by omega, by omega, g3, hcell⟩

theorem Own8.empty (lo hi : Nat) (w : World) (a : Option Addr) (cap : Nat) : Own8 lo hi w (.slice a 0 cap) [] :=
  ⟨fun i => by simp, a, cap, rfl, fun h => by simp at h⟩

/-- a new row of the bytes zs -/
theorem Own8.made (w : World) (zs : List Int) (h : ∀ i, 0 ≤ zs.getD i 0 ∧ zs.getD i 0 < 256) (g : Nat) (hg : g = w.heap.size) : Own8 g (g + 1) (w.alloc (.cells (u8s zs) 5)) (.slice (some ⟨g, 0, none⟩) zs.length zs.length) zs := by
  subst hg
  refine ⟨h, _, _, rfl, fun _ => ⟨_, _, rfl, Nat.le_refl _, Nat.lt_succ_self _, by simp, fun i hi => ?_⟩⟩
  rw [World.cell?_alloc_at _ _ _ _ rfl, World.frozen?_alloc_at _ _ _ _ rfl]
  simp [u8s, hi]

/-- out of an owned row -/
theorem Own8.of_row {w : World} {base : Nat} {v : Value} {zs : List Int} (h : w.ownsRow base 5 1 v zs.length (zs.map (Value.int .u8))) (hz : ∀ i, 0 ≤ zs.getD i 0 ∧ zs.getD i 0 < 256) : Own8 base w.heap.size w v zs := by
  rcases h.2 with ⟨hv, hn⟩ | ⟨g, cap, cur, hv, hb, hg, hnc, hcm, hcs, htake⟩
  · refine ⟨hz, none, 0, by rw [hv, hn], fun hp => by omega⟩
  · subst hv
    have hlt : g < w.heap.size := by
      by_cases hh : g < w.heap.size
      · exact hh
      · simp [show w.heap.size ≤ g by omega] at hg
    refine ⟨hz, _, _, rfl, fun hp => ⟨g, 0, rfl, hb, hlt, hlt, fun i hi => ?_⟩⟩
    rw [Nat.zero_add]
    refine ⟨?_, h.frozenAt i⟩
    rw [h.cellAt i (by omega)]
    simp [hi]
/-- v is a row of the call's own that holds the bytes zs -/
def Row8 (base : Nat) (w : World) (v : Value) (zs : List Int) : Prop := w.ownsRow base 5 1 v zs.length (zs.map (Value.int .u8))

theorem Row8.own {base : Nat} {w : World} {v : Value} {zs : List Int} (h : Row8 base w v zs) (hz : ∀ i, 0 ≤ zs.getD i 0 ∧ zs.getD i 0 < 256) : Own8 base w.heap.size w v zs := Own8.of_row h hz

theorem Row8.shape {base : Nat} {w : World} {v : Value} {zs : List Int} (h : Row8 base w v zs) : ∃ a cap, v = .slice a zs.length cap := by
  rcases h.2 with ⟨hv, hn⟩ | ⟨g, cap, cur, hv, _⟩
  · exact ⟨none, 0, by rw [hv, hn]⟩
  · exact ⟨_, _, hv⟩

theorem Row8.start (base : Nat) (w : World) : Row8 base w (.slice none 0 0) [] := World.ownsRow_nil w base 5 1

theorem Row8.lit (base : Nat) (w : World) (hb : base ≤ w.heap.size) (g : Nat) (hg : g = w.heap.size) : Row8 base (w.alloc (.cells #[] 5)) (.slice (some ⟨g, 0, none⟩) 0 0) [] := by
  subst hg; exact World.ownsRow_lit (e := 5) (size := 1) w #[] 0 hb (by decide) rfl

/-- 'out = append(out, c)' of a byte -/
theorem wpList_append8 {ops : Array Oper} {rest : List Oper} {o : Oper} {a : Act} {Q : Exit → Act → World → Prop} (hgd : o.guard = none) (s x : Operand)
    (ho : o.op = .call { callee := .builtin .append, args := #[s, x], argTypes := #[22, 22] })
    {base : Nat} {w0 : World} {v : Value} {zs : List Int} (c : Int) (hown : Row8 base w0 v zs) (hs : a.eval s = v) (hx : a.eval x = .slice (some ⟨w0.heap.size, 0, none⟩) 1 1)
    (hlen : zs.length < 140737488355328) (hb : base ≤ w0.heap.size)
    (h : ∀ v' w', Row8 base w' v' (zs ++ [c]) → Below base w0 w' → w0.heap.size ≤ w'.heap.size → (w0.alloc (.cells #[.int .u8 c] 5)).grownBy w' v.ownBlock → wpList Tryz.prog ops Q rest (a.put o.dst v') w') :
    wpList Tryz.prog ops Q (o :: rest) a (w0.alloc (.cells #[.int .u8 c] 5)) := by
  obtain ⟨i0, hi, hz0, hz1, hz2⟩ := info_parts info8
  refine wpList_append_own _ hgd s x 22 ho base 5 i0 (.int .u8 0) 1 1 Tryz.underlying22 hi hz0 hz1 hz2 rfl (by decide) v _ _ hs (hown.alloc _) ⟨w0.heap.size, 0, none⟩ 1 1 [.int .u8 c] hx rfl ?_ ?_ ?_ ?_ ?_ ?_
  · intro j u hj
    match j, hj with
    | 0, hj => simp at hj; subst hj; simp [Addr.add, World.cell?_alloc_at]
  · intro u hu; simp at hu; subst hu; rfl
  · unfold maxLen; omega
  · omega
  · simp; omega
  · intro v' w' h1 h2 _
    have hb1 : Below base w0 w' := ((Below.refl base w0).alloc hb _).grown h2 (by simp; omega) (fun k hk => (hown.lt k hk).1)
    refine h v' w' ?_ hb1 (by have := h2.size; simp at this; omega) h2
    unfold Row8
    simpa using h1

end Go.Proofs.YtfbjagjgofdheaaGreatDoor

namespace Go.Proofs.YtfbjagjgofdheaaGreatDoor
open Go.RowKit

theorem Own8.stored {lo hi : Nat} {w : World} {b off n cap : Nat} {zs : List Int} (h : Own8 lo hi w (.slice (some ⟨b, off, none⟩) n cap) zs) (j : Nat) (hj : j < n) (x : Int) (hx : 0 ≤ x ∧ x < 256) :
    Own8 lo hi (w.setCell ⟨b, off + j, none⟩ (.int .u8 x)) (.slice (some ⟨b, off, none⟩) n cap) (zs.set j x) ∧ Upd lo hi w (w.setCell ⟨b, off + j, none⟩ (.int .u8 x)) := by
  obtain ⟨a, cap', hv, hc⟩ := h.shape
  simp only [Value.slice.injEq] at hv
  obtain ⟨rfl, rfl, rfl⟩ := hv
  obtain ⟨b', off', ha, h1, h2, h3, hcell⟩ := hc (by omega)
  simp only [Option.some.injEq, Addr.mk.injEq, and_true] at ha
  obtain ⟨rfl, rfl⟩ := ha
  refine ⟨⟨fun i => ?_, _, _, by rw [List.length_set], fun _ => ⟨b, off, rfl, h1, h2, by simpa using h3, fun i hi => ?_⟩⟩, (Upd.refl _ _ _).setCell h1 h2 _⟩
  · have hs := h.small i
    simp only [List.getD_eq_getElem?_getD] at hs ⊢
    rw [List.getElem?_set]
    by_cases hij : j = i
    · rw [if_pos hij, if_pos (by omega)]; simpa using hx
    · rw [if_neg hij]; exact hs
  · rw [List.length_set] at hi
    have hci := hcell i hi
    refine ⟨?_, by simpa using hci.2⟩
    simp only [List.getD_eq_getElem?_getD]
    rw [List.getElem?_set]
    by_cases hij : j = i
    · subst hij
      rw [if_pos rfl, if_pos hi, World.cell?_setCell_same _ _ _ hci.1]; rfl
    · rw [if_neg hij, World.cell?_setCell_other _ _ _ _ (by intro hh; simp only [Addr.mk.injEq] at hh; omega), hci.1]; rfl

/-- what a mark from k on leaves in n bytes -/
def marks (k : Int) (n : Nat) : List Int := (List.range n).map fun (i : Nat) => (k + (i : Int)) % 256

theorem marks_length (k : Int) (n : Nat) : (marks k n).length = n := by simp [marks]

theorem marks_get (k : Int) (n i : Nat) (h : i < n) : (marks k n).getD i 0 = (k + (i : Int)) % 256 := by
  simp [marks, h]

/-- the first j of them -/
def marked (k : Int) (zs : List Int) (j : Nat) : List Int := marks k j ++ zs.drop j

theorem marked_zero (k : Int) (zs : List Int) : marked k zs 0 = zs := by simp [marked, marks]

theorem marked_end (k : Int) (zs : List Int) : marked k zs zs.length = marks k zs.length := by simp [marked]

theorem marked_length (k : Int) (zs : List Int) (j : Nat) (h : j ≤ zs.length) : (marked k zs j).length = zs.length := by
  simp [marked, marks_length]; omega

theorem marked_step (k : Int) (zs : List Int) (j : Nat) (h : j < zs.length) : (marked k zs j).set j ((k + (j : Int)) % 256) = marked k zs (j + 1) := by
  apply List.ext_getElem?
  intro i
  rw [List.getElem?_set]
  simp only [marked, marks, List.getElem?_append, List.length_map, List.length_range, List.getElem?_map, List.getElem?_drop, List.length_append, List.length_drop]
  by_cases hij : j = i
  · subst hij
    rw [if_pos rfl, if_pos (by omega), if_pos (by omega)]
    simp
  · rw [if_neg hij]
    by_cases hlt : i < j
    · rw [if_pos hlt, if_pos (by omega)]
      simp [hlt, show i < j + 1 by omega]
    · rw [if_neg hlt, if_neg (by omega), show j + (i - j) = j + 1 + (i - (j + 1)) by omega]

end Go.Proofs.YtfbjagjgofdheaaGreatDoor
