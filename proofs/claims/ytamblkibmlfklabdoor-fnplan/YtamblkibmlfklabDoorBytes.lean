import Derived.Test.YtamblkibmlfklabDoorRows
import Derived.WalkKit
import Derived.WalkSpells
import Derived.WalkLawsBesides
import Derived.Deep.QuietTactic
import Derived.BigQuiet
import Derived.Deep.OwnRows
namespace Go.Proofs.YtamblkibmlfklabDoor
open Go.RowKit

theorem info8 : (Tryd.prog.info? 5).map (fun i => (i.zero, i.size, i.bytes)) = some (some (.int .u8 0), 1, 1) := by kernel_rfl

/-- the cells that hold the bytes zs -/
def u8s (zs : List Int) : Array Value := (zs.map (Value.int .u8)).toArray

/-- the slice value v reads in w as the bytes zs -/
structure Bts (w : World) (v : Value) (zs : List Int) : Prop where
  small : ∀ i, 0 ≤ zs.getD i 0 ∧ zs.getD i 0 < 256
  shape : ∃ a cap, v = .slice a zs.length cap ∧ (0 < zs.length → ∃ b off, a = some ⟨b, off, none⟩ ∧ ∀ i, i < zs.length → w.cell? ⟨b, off + i, none⟩ = some (.int .u8 (zs.getD i 0)))

theorem Bts.kept {w w' : World} {v : Value} {zs : List Int} (h : Bts w v zs) (k : ∀ b o, b < w.heap.size → w'.cell? ⟨b, o, none⟩ = w.cell? ⟨b, o, none⟩) : Bts w' v zs := by
  obtain ⟨a, cap, hv, hc⟩ := h.shape
  refine ⟨h.small, a, cap, hv, fun hp => ?_⟩
  obtain ⟨b, off, ha, hcell⟩ := hc hp
  exact ⟨b, off, ha, fun i hi => (k b _ (World.block_lt_of_cell? _ _ (hcell i hi))).trans (hcell i hi)⟩

theorem Bts.below {w w' : World} {v : Value} {zs : List Int} (h : Bts w v zs) (k : Below w.heap.size w w') : Bts w' v zs :=
  h.kept fun b o hb => k.cell (p := ⟨b, o, none⟩) hb

theorem Bts.alloc {w : World} {v : Value} {zs : List Int} (h : Bts w v zs) (o : Obj) : Bts (w.alloc o) v zs :=
  h.kept fun _ _ hb => World.cell?_alloc_past _ _ _ hb

/-- a new row of the bytes zs -/
theorem Bts.made (w : World) (zs : List Int) (h : ∀ i, 0 ≤ zs.getD i 0 ∧ zs.getD i 0 < 256) : Bts (w.alloc (.cells (u8s zs) 5)) (.slice (some ⟨w.heap.size, 0, none⟩) zs.length zs.length) zs := by
  refine ⟨h, _, _, rfl, fun _ => ⟨_, _, rfl, fun i hi => ?_⟩⟩
  rw [World.cell?_alloc_at _ _ _ _ rfl]
  simp [u8s, hi]

theorem Bts.made_at (w : World) (zs : List Int) (h : ∀ i, 0 ≤ zs.getD i 0 ∧ zs.getD i 0 < 256) (g : Nat) (hg : g = w.heap.size) : Bts (w.alloc (.cells (u8s zs) 5)) (.slice (some ⟨g, 0, none⟩) zs.length zs.length) zs := by
  subst hg; exact Bts.made w zs h

/-- the first k bytes copied, the rest zero -/
def part8 (zs : List Int) (k : Nat) : Array Value := u8s (zs.take k ++ List.replicate (zs.length - k) 0)

theorem part8_zero (zs : List Int) : madeCells #[.int .u8 0] zs.length = part8 zs 0 := by
  apply Array.toList_inj.1
  rw [toList_madeCells_one]
  simp [part8, u8s]

theorem part8_end (zs : List Int) : part8 zs zs.length = u8s zs := by simp [part8]

theorem part8_at (zs : List Int) (k j : Nat) (hk : k ≤ zs.length) : (part8 zs k)[j]? = if j < k then some (.int .u8 (zs.getD j 0)) else if j < zs.length then some (.int .u8 0) else none := by
  simp only [part8, u8s, List.getElem?_toArray, List.getElem?_map, List.getElem?_append, List.length_take, List.getElem?_replicate, List.getElem?_take]
  by_cases hj : j < k
  · rw [if_pos (show j < min k zs.length by omega), if_pos hj, if_pos hj]
    simp [show j < zs.length by omega]
  · rw [if_neg (show ¬ j < min k zs.length by omega), if_neg hj]
    by_cases hl : j < zs.length
    · rw [if_pos hl, if_pos (show j - min k zs.length < zs.length - k by omega)]; rfl
    · rw [if_neg hl, if_neg (show ¬ j - min k zs.length < zs.length - k by omega)]; rfl

theorem part8_size (zs : List Int) (k : Nat) (hk : k ≤ zs.length) : (part8 zs k).size = zs.length := by
  simp [part8, u8s]; omega

theorem part8_step (zs : List Int) (k : Nat) (h : k < zs.length) : (part8 zs k).setIfInBounds k (.int .u8 (zs.getD k 0)) = part8 zs (k + 1) := by
  apply Array.ext_getElem?
  intro j
  rw [Array.getElem?_setIfInBounds, part8_at zs k j (by omega), part8_at zs (k + 1) j (by omega), part8_size zs k (by omega)]
  by_cases hj : k = j
  · subst hj
    simp [h]
  · rw [if_neg hj]
    by_cases hlt : j < k
    · rw [if_pos hlt, if_pos (by omega)]
    · rw [if_neg hlt, if_neg (show ¬ j < k + 1 by omega)]

theorem part8_get (zs : List Int) (k : Nat) (h : k < zs.length) : (part8 zs k)[k]? = some (.int .u8 0) := by
  rw [part8_at zs k k (by omega), if_neg (by omega), if_pos h]

end Go.Proofs.YtamblkibmlfklabDoor
