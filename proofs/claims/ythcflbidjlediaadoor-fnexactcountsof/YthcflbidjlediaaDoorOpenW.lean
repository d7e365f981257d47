import Derived.Test.YthcflbidjlediaaDoorOpenL
namespace Go.Proofs.YthcflbidjlediaaDoor
open Go.ChangeShapes Go.WideShapes Go.ChangeAt Go.RowKit

/-- a sentinel's text -/
def textOf : DataW Unit → ByteArray
  | .iface _ (.ptr (.agg [.lit (.string l)])) => ⟨l.toArray⟩
  | _ => ⟨#[]⟩
noncomputable def low : Nat := (World.holding Tryd.prog default ⟨#[], #[], []⟩).heap.size
def putIn (v : Value) : Obj → Obj
  | .cells _ t frozen => .cells #[v] t frozen
  | o => o
/-- one start in which all that is listed is laid -/
noncomputable def laidWorld (os : Os) : World :=
  let w0 := World.holding Tryd.prog os ⟨#[.cells #[.string (textOf Rows.laid_loop_example_s01595_impl_errSize)] 114, .cells #[.string (textOf Rows.laid_loop_example_s01595_impl_errSum)] 114, .cells #[.string (textOf Rows.laid_loop_example_s01595_impl_errBound)] 114, .cells #[.string (textOf Rows.laid_loop_example_s01595_impl_errOrder)] 114], #[], []⟩
  { w0 with heap := ((((w0.heap.modify 4 (putIn (.iface 76 (.agg #[.pointer (some ⟨5, 42, none⟩)])))).modify 2 (putIn (.iface 92 (.pointer (some ⟨low, 0, none⟩))))).modify 3 (putIn (.iface 92 (.pointer (some ⟨low + 1, 0, none⟩))))).modify 0 (putIn (.iface 92 (.pointer (some ⟨low + 2, 0, none⟩))))).modify 1 (putIn (.iface 92 (.pointer (some ⟨low + 3, 0, none⟩)))) }

theorem laidWorld_met (os : Os) (args : Array Value) : laidMetH Tryd.prog laid5 ((laidWorld os).forCall (fun _ _ => 0) ⟨#[], args, []⟩).memory :=
  laidMetH_of_parts (show laidMet Tryd.prog laid4 _ from laidMet_of_run (ps := [.cell 2 0, .cell low 0, .cell 3 0, .cell (low + 1) 0, .cell 0 0, .cell (low + 2) 0, .cell 1 0, .cell (low + 3) 0]) 8 (by kernel_rfl) (by kernel_rfl) (by kernel_rfl)) (by kernel_rfl)
end Go.Proofs.YthcflbidjlediaaDoor
