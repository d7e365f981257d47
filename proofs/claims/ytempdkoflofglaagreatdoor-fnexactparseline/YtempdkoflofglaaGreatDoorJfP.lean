import Derived.Test.YtempdkoflofglaaGreatDoorOpenP
import Derived.JoinedOf
namespace Go.Proofs.YtempdkoflofglaaGreatDoor.fnExactParseLine
open Go.ChangeShapes Go.WideShapes Go.ChangeAt Go.RowKit

/-- the row's closed facts, each by itself -/
theorem inPlace_fact : (Rows.fnExactParseLineRow.inPlace == Tryz.prog.inPlace 3) = true := by kernel_rfl
theorem unfollowed_fact : (Rows.fnExactParseLineRow.unfollowed == Tryz.prog.unfollowed 3) = true := by kernel_rfl
theorem recurses_fact : (Rows.fnExactParseLineRow.recurses == Tryz.prog.recurses 3) = true := by kernel_rfl
theorem named_fact : (Rows.fnExactParseLineRow.named == Tryz.prog.varsNamed 3) = true := by kernel_rfl

theorem closed : joinedFacts Tryz.prog 3 Tryz.f3 Rows.fnExactParseLineSpec Rows.fnExactParseLineRow = true := by
  unfold joinedFacts
  rw [inPlace_fact, unfollowed_fact, recurses_fact, named_fact]
  kernel_rfl
end Go.Proofs.YtempdkoflofglaaGreatDoor.fnExactParseLine
