import Derived.Test.YtamblkibmlfklabDoorOpenL
namespace Go.Proofs.YtamblkibmlfklabDoor
open Go.ChangeShapes Go.WideShapes Go.ChangeAt Go.RowKit

/-- a sentinel's text -/
def textOf : DataW Unit → ByteArray
  | .iface _ (.ptr (.agg [.lit (.string l)])) => ⟨l.toArray⟩
  | _ => ⟨#[]⟩
def putIn (v : Value) : Obj → Obj
  | .cells _ t frozen => .cells #[v] t frozen
  | o => o
/-- a world in which all that is listed is laid: the sentinels' texts lie in blocks n, n + 1, n + 2, n + 3 -/
def laidIn (w0 : World) (n : Nat) : World :=
  { w0 with heap := ((((w0.heap.modify 4 (putIn (.iface 99 (.agg #[.pointer (some ⟨5, 54, none⟩)])))).modify 2 (putIn (.iface 114 (.pointer (some ⟨n, 0, none⟩))))).modify 3 (putIn (.iface 114 (.pointer (some ⟨n + 1, 0, none⟩))))).modify 0 (putIn (.iface 114 (.pointer (some ⟨n + 2, 0, none⟩))))).modify 1 (putIn (.iface 114 (.pointer (some ⟨n + 3, 0, none⟩)))) }

theorem laidWorld_met (os : Os) (args : Array Value) : laidMetH Tryd.prog laid5 ((laidIn (World.holding Tryd.prog os ⟨#[.cells #[.string (textOf Rows.laid_loop_example_s01595_impl_errSize)] 136, .cells #[.string (textOf Rows.laid_loop_example_s01595_impl_errSum)] 136, .cells #[.string (textOf Rows.laid_loop_example_s01595_impl_errBound)] 136, .cells #[.string (textOf Rows.laid_loop_example_s01595_impl_errOrder)] 136], #[], []⟩) (World.holding Tryd.prog default ⟨#[], #[], []⟩).heap.size).forCall (fun _ _ => 0) ⟨#[], args, []⟩).memory :=
  laidMetH_of_parts (show laidMet Tryd.prog laid4 _ from laidMet_of_run (ps := [.cell 2 0, .cell (World.holding Tryd.prog default ⟨#[], #[], []⟩).heap.size 0, .cell 3 0, .cell ((World.holding Tryd.prog default ⟨#[], #[], []⟩).heap.size + 1) 0, .cell 0 0, .cell ((World.holding Tryd.prog default ⟨#[], #[], []⟩).heap.size + 2) 0, .cell 1 0, .cell ((World.holding Tryd.prog default ⟨#[], #[], []⟩).heap.size + 3) 0]) 8 (by kernel_rfl) (by kernel_rfl) (by kernel_rfl)) (by kernel_rfl)
end Go.Proofs.YtamblkibmlfklabDoor
