import Derived.Test.YtlndpbebenecgaaDoorLawMs
import Derived.Test.YtlndpbebenecgaaDoorTie
import Derived.ProofKit
import Derived.OpenShut
import Derived.ShutString
import Derived.ChangeOld
import Derived.Below
import Derived.OpenVars
import Derived.ChangeVars
import Derived.JoinedOf
import Derived.LaidLaws
import Derived.LaidHandle
import Derived.LaidSub
import Derived.Stop.Joined
import Derived.Stop.LaidErr
namespace Go.Proofs.YtlndpbebenecgaaDoor
open Go.ChangeShapes Go.WideShapes Go.ChangeAt Go.RowKit

theorem own : ownKnob Tryd.prog.godebug = none := by kernel_rfl
theorem laidOut : laidOutB Tryd.prog = true := by kernel_rfl
/-- what is listed -/
def laid4m : List (String × DataW Unit) := [("errors.errorType", Rows.laid_errors_errorType), ("loop.example/s01595/impl.errSize", Rows.laid_loop_example_s01595_impl_errSize), ("loop.example/s01595/impl.errSum", Rows.laid_loop_example_s01595_impl_errSum), ("loop.example/s01595/impl.errKind", Rows.laid_loop_example_s01595_impl_errKind)]
def laid3m : List (String × DataW Unit) := [("loop.example/s01595/impl.errSize", Rows.laid_loop_example_s01595_impl_errSize), ("loop.example/s01595/impl.errSum", Rows.laid_loop_example_s01595_impl_errSum), ("loop.example/s01595/impl.errKind", Rows.laid_loop_example_s01595_impl_errKind)]
/-- a sentinel's text -/
def textOf : DataW Unit → ByteArray
  | .iface _ (.ptr (.agg [.lit (.string l)])) => ⟨l.toArray⟩
  | _ => ⟨#[]⟩
def putIn (v : Value) : Obj → Obj
  | .cells _ t frozen => .cells #[v] t frozen
  | o => o
/-- a world in which all that is listed is laid: the sentinels' texts lie in blocks n, n + 1, n + 2 -/
def laidIn (w0 : World) (n : Nat) : World :=
  { w0 with heap := (((w0.heap.modify 4 (putIn (.iface 196 (.agg #[.pointer (some ⟨8, 93, none⟩)])))).modify 0 (putIn (.iface 212 (.pointer (some ⟨n + 0, 0, none⟩))))).modify 1 (putIn (.iface 212 (.pointer (some ⟨n + 1, 0, none⟩))))).modify 2 (putIn (.iface 212 (.pointer (some ⟨n + 2, 0, none⟩)))) }

theorem laidWorld_met (os : Os) (args : Array Value) : laidMetH Tryd.prog laid4m ((laidIn (World.holding Tryd.prog os ⟨#[.cells #[.string (textOf Rows.laid_loop_example_s01595_impl_errSize)] 241, .cells #[.string (textOf Rows.laid_loop_example_s01595_impl_errSum)] 241, .cells #[.string (textOf Rows.laid_loop_example_s01595_impl_errKind)] 241], #[], []⟩) (World.holding Tryd.prog default ⟨#[], #[], []⟩).heap.size).forCall (fun _ _ => 0) ⟨#[], args, []⟩).memory :=
  laidMetH_of_parts (show laidMet Tryd.prog laid3m _ from laidMet_of_run (ps := [.cell 0 0, .cell ((World.holding Tryd.prog default ⟨#[], #[], []⟩).heap.size + 0) 0, .cell 1 0, .cell ((World.holding Tryd.prog default ⟨#[], #[], []⟩).heap.size + 1) 0, .cell 2 0, .cell ((World.holding Tryd.prog default ⟨#[], #[], []⟩).heap.size + 2) 0]) 8 (by kernel_rfl) (by kernel_rfl) (by kernel_rfl)) (by kernel_rfl)
end Go.Proofs.YtlndpbebenecgaaDoor
