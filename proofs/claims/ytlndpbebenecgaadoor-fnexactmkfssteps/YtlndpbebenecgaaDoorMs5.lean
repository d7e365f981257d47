import Derived.Test.YtlndpbebenecgaaDoorMs4
namespace Go.Proofs.YtlndpbebenecgaaDoor
open Go.RowKit

set_option maxRecDepth 100000 in
/-- the block of the fresh leaf -/
theorem l5NodeBlock_any (w : World) : Calls Tryd.prog 41 #[.agg #[.int .i64 1, .slice none 0 0]] w fun e w' => ∃ u, e = .returned u ∧ Row8 w.heap.size w' u (slL (headL 1 0)) ∧ Below w.heap.size w w' := by
  have hb0 := belowA w (.cells #[.int .i64 1, .slice none 0 0] 63)
  go_enter Tryd.func41, Tryd.ntmps41
  go_wp2_with fail
  refine (specEncLeaf _).mono ?_
  rintro e w1 ⟨u, rfl, hR, hb1⟩
  obtain ⟨ua, uc, rfl⟩ := hR.shape
  go_wp2_with fail
  go_ret
  exact ⟨_, rfl, hR.lower (by simp), hb0.trans (hb1.mono (by simp))⟩

end Go.Proofs.YtlndpbebenecgaaDoor
