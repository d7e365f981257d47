import Derived.Test.YtamblkibmlfklabDoorCt4
namespace Go.Proofs.YtamblkibmlfklabDoor
open Go.RowKit

/-- okT, reckoned -/
def okB (B : Int) (rs : List R3) : Bool := (List.range rs.length).all fun i => inRb (rs.getD i (0, 0, 0)) && (i == 0 || folb (rs.getD (i - 1) (0, 0, 0)) (rs.getD i (0, 0, 0))) && decide ((rs.getD i (0, 0, 0)).1 + (rs.getD i (0, 0, 0)).2.1 ≤ B)
theorem okB_iff (B : Int) (rs : List R3) : okB B rs = true ↔ okT B rs := by
  unfold okB okT okC
  rw [List.all_eq_true]
  constructor
  · intro h
    refine ⟨fun i hi => ?_, fun i hi => ?_⟩
    · have := h i (List.mem_range.2 hi)
      simp only [Bool.and_eq_true, decide_eq_true_eq, Bool.or_eq_true, beq_iff_eq] at this
      exact ⟨inRb_of this.1.1, fun h0 => folb_of (this.1.2.resolve_left (by omega))⟩
    · have := h i (List.mem_range.2 hi)
      simp only [Bool.and_eq_true, decide_eq_true_eq] at this
      exact this.2
  · intro h i hi
    have hi' := List.mem_range.1 hi
    simp only [Bool.and_eq_true, decide_eq_true_eq, Bool.or_eq_true, beq_iff_eq]
    refine ⟨⟨inRb_t (h.1 i hi').1, ?_⟩, h.2 i hi'⟩
    by_cases h0 : i = 0
    · exact .inl h0
    · exact .inr (folb_t ((h.1 i hi').2 (by omega)))
end Go.Proofs.YtamblkibmlfklabDoor
