import Derived.Test.YtamblkibmlfklabDoorCt3
namespace Go.Proofs.YtamblkibmlfklabDoor
open Go.RowKit

/-- the runs are in order and end by top -/
def okT (top : Int) (rs : List R3) : Prop := okC rs ∧ ∀ i, i < rs.length → (rs.getD i (0, 0, 0)).1 + (rs.getD i (0, 0, 0)).2.1 ≤ top

/-- so far -/
def okU (top : Int) (rs : List R3) (k : Nat) : Prop := ∀ j, j < k → inR (rs.getD j (0, 0, 0)) ∧ (0 < j → fol (rs.getD (j - 1) (0, 0, 0)) (rs.getD j (0, 0, 0))) ∧ (rs.getD j (0, 0, 0)).1 + (rs.getD j (0, 0, 0)).2.1 ≤ top

theorem okU_end {top : Int} {rs : List R3} (h : okU top rs rs.length) : okT top rs := ⟨fun i hi => ⟨(h i hi).1, (h i hi).2.1⟩, fun i hi => (h i hi).2.2⟩
theorem okT_at {top : Int} {rs : List R3} (h : okT top rs) {i : Nat} (hi : i < rs.length) {x y z : Int} (he : rs.getD i (0, 0, 0) = (x, y, z)) : (2 ≤ x ∧ x ≤ 512) ∧ (1 ≤ y ∧ y ≤ 512) ∧ x + y ≤ 512 ∧ (1 ≤ z ∧ z ≤ 65535) ∧ x + y ≤ top := by
  have h1 := (h.1 i hi).1
  have h2 := h.2 i hi
  rw [he] at h1 h2
  exact ⟨h1.1, h1.2.1, h1.2.2.1, h1.2.2.2, h2⟩

end Go.Proofs.YtamblkibmlfklabDoor
