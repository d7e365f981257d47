/-
  NARROWER THAN 'FOR EVERY INPUT', by the rows' own cells (each row's printed sentence says how): FnBlocks: ifaces, laid.
  DERIVED. THE GIVEN ROWS OF THIS SEAT. 1 by the template 'for every input the law returns true; each argument reads behind the call as it read before'; 0 by the template 'total and deterministic' (their statements: YtfbjagjgofdheaaGreatDoorTotals.lean).
  GIVEN WITH THE SEED: the statements are not yours to turn. If you find one false, say at which input.
  Laid BY PROGRAM, IN A SANDBOX (cutbox-rows.mjs): the forced cells as the released guide's own fill.sh prints them over the translation 7b927fcdfea3d735… (all of the seat's roots in one cut). By AI agents, Wed Nov 11 2026. No macro, syntax, notation, axiom, sorry.
-/
import Derived.Test.YtfbjagjgofdheaaGreatDoorChecked
import GoSem.Claim
import GoSem.ClaimJoined
import GoSem.ClaimMapViews
import Derived.JoinedTies
import Derived.KernelRfl
namespace Go.Proofs.YtfbjagjgofdheaaGreatDoor
/- THE CELL 'sum', in the pinned program and in every row, IS THE sha256 OF THE DUMP (.gsa) THAT YtfbjagjgofdheaaGreatDoorProg.lean LOADS. Nothing in Lean hashes anything: it is a label: what it is worth is what the hold of that sum in a sandbox is worth. -/
noncomputable def Tryz.pinned : Pinned := { name := "ytfbjagjgofdheaagreatdoor", sum := "7b927fcdfea3d7355dac24edac4322bdcef7c19464c3b3f5b9dfc34041101881", checked := Tryz.checked }
namespace Rows
def none {H : Type} : Left H := { results := [], args := [] }

/- WHAT THE LISTED PACKAGE-LEVEL VARIABLES READ AS WHEN THE CALL BEGINS. Each datum BY PROGRAM (the guide's laid-datum.mjs) off the statement by which the dump's own 'gosem.cut.vars' lays the variable. In a bare row this is a premise. The card (YtfbjagjgofdheaaGreatDoorCards.lean) ties it to the program's text. -/
def laid_errors_errorType {H : Type} : DataW H := .iface "internal/reflectlite.rtype" (.agg [.ptr (.lit (.string [101, 114, 114, 111, 114]))])
def laid_loop_example_s01595_impl_errSize {H : Type} : DataW H := .iface "*errors.errorString" (.ptr (.agg [.lit (.string [116, 104, 101, 32, 98, 108, 111, 99, 107, 32, 104, 97, 115, 32, 110, 111, 116, 32, 105, 116, 115, 32, 115, 105, 122, 101])]))
def laid_loop_example_s01595_impl_errSum {H : Type} : DataW H := .iface "*errors.errorString" (.ptr (.agg [.lit (.string [116, 104, 101, 32, 115, 117, 109, 32, 105, 115, 32, 110, 111, 116, 32, 116, 104, 97, 116, 32, 111, 102, 32, 116, 104, 101, 32, 98, 121, 116, 101, 115, 32, 97, 104, 101, 97, 100, 32, 111, 102, 32, 105, 116])]))
def laid_loop_example_s01595_impl_errKind {H : Type} : DataW H := .iface "*errors.errorString" (.ptr (.agg [.lit (.string [116, 104, 101, 32, 107, 105, 110, 100, 32, 105, 115, 32, 110, 111, 110, 101, 32, 111, 102, 32, 97, 32, 98, 108, 111, 99, 107])]))
def laid_loop_example_s01595_impl_errNumber {H : Type} : DataW H := .iface "*errors.errorString" (.ptr (.agg [.lit (.string [116, 111, 111, 32, 102, 101, 119, 32, 111, 114, 32, 116, 111, 111, 32, 109, 97, 110, 121, 32, 101, 108, 101, 109, 101, 110, 116, 115])]))
def laid_loop_example_s01595_impl_errBound {H : Type} : DataW H := .iface "*errors.errorString" (.ptr (.agg [.lit (.string [97, 32, 102, 105, 101, 108, 100, 32, 105, 115, 32, 111, 117, 116, 32, 111, 102, 32, 105, 116, 115, 32, 98, 111, 117, 110, 100, 115])]))
def laid_loop_example_s01595_impl_errRest {H : Type} : DataW H := .iface "*errors.errorString" (.ptr (.agg [.lit (.string [97, 32, 98, 121, 116, 101, 32, 116, 104, 97, 116, 32, 109, 117, 115, 116, 32, 98, 101, 32, 122, 101, 114, 111, 32, 105, 115, 32, 110, 111, 116])]))

/-- 'laws.FnBlocks': WHATEVER THE INPUT: true; the input reads as it did. -/
def fnBlocksSpec : ChangeSpec := { name := "fnBlocks", vars := ["loop.example/s01595/impl.errKind", "loop.example/s01595/impl.errSize", "loop.example/s01595/impl.errSum", "loop.example/s01595/impl.errRest", "loop.example/s01595/impl.errNumber", "loop.example/s01595/impl.errBound"], fn := fun _ => fun
  | [d1, d2, g1, g2, g3, g4, g5, g6] => { results := [.lit (.bool true)], args := [d1, d2], vars := [g1, g2, g3, g4, g5, g6] }
  | _ => none }
def fnBlocksRow : OpenClaim := { program := "ytfbjagjgofdheaagreatdoor", sum := "7b927fcdfea3d7355dac24edac4322bdcef7c19464c3b3f5b9dfc34041101881", func := "loop.example/s01595/laws.FnBlocks", spec := "fnBlocks", inPlace := ["internal/reflectlite.TypeOf", "internal/reflectlite.ValueOf", "(internal/reflectlite.Value).Type", "(internal/reflectlite.Value).IsNil", "(internal/reflectlite.Value).Elem", "(internal/reflectlite.Value).Set"], unfollowed := true, recurses := true, named := ["loop.example/s01595/impl.errKind", "loop.example/s01595/impl.errSize", "loop.example/s01595/impl.errSum", "errors.errorType", "loop.example/s01595/impl.errRest", "loop.example/s01595/impl.errNumber", "loop.example/s01595/impl.errBound"], ifaces := true, apart := false, laid := [("errors.errorType", laid_errors_errorType), ("loop.example/s01595/impl.errSize", laid_loop_example_s01595_impl_errSize), ("loop.example/s01595/impl.errSum", laid_loop_example_s01595_impl_errSum), ("loop.example/s01595/impl.errKind", laid_loop_example_s01595_impl_errKind), ("loop.example/s01595/impl.errNumber", laid_loop_example_s01595_impl_errNumber), ("loop.example/s01595/impl.errBound", laid_loop_example_s01595_impl_errBound), ("loop.example/s01595/impl.errRest", laid_loop_example_s01595_impl_errRest)] }
def FnBlocksSaid : Prop := fnBlocksRow.holds Tryz.pinned (OpenSpec.ofChange fnBlocksSpec)

/-- ITS FALSE NEIGHBOUR: 'it returns false'. Refute it at one input. -/
def fnBlocksWrong : ChangeSpec := { name := "fnBlocks", vars := ["loop.example/s01595/impl.errKind", "loop.example/s01595/impl.errSize", "loop.example/s01595/impl.errSum", "loop.example/s01595/impl.errRest", "loop.example/s01595/impl.errNumber", "loop.example/s01595/impl.errBound"], fn := fun _ => fun
  | [d1, d2, g1, g2, g3, g4, g5, g6] => { results := [.lit (.bool false)], args := [d1, d2], vars := [g1, g2, g3, g4, g5, g6] }
  | _ => none }
def FnBlocksWrongFalsely : Prop := fnBlocksRow.holds Tryz.pinned (OpenSpec.ofChange fnBlocksWrong)

/- THE SECOND FORM. 'bulk': how many values and letters a reading holds, each counted each time it is reached (what is shared counts as often as it is met; a slice's spare places count too). A statement '..UptoSaid' is the law's where the arguments, and the package variables that the reading takes, are together of bulk at most 1048576: NARROWER than '..Said'. Prove '..Said' where nothing that the law and all that it calls make is longer than what came in: it says more and counts as full. Else prove '..UptoSaid'. A law counts once. -/
mutual
def uptoBulk {H : Type} : DataW H → Nat
  | .lit (.string bytes) => bytes.length + 1
  | .lit _ => 1
  | .nil => 1
  | .ptr d => uptoBulk d + 1
  | .slice elems spare => uptoBulkAll elems + uptoBulkAll spare + 1
  | .agg parts => uptoBulkAll parts + 1
  | .iface _ d => uptoBulk d + 1
  | .map entries => uptoBulkEntries entries + 1
  | .held _ => 1
def uptoBulkAll {H : Type} : List (DataW H) → Nat
  | [] => 0
  | d :: r => uptoBulk d + uptoBulkAll r
def uptoBulkEntries {H : Type} : List (Lit × DataW H) → Nat
  | [] => 0
  | x :: r => uptoBulkEntry x + uptoBulkEntries r
def uptoBulkEntry {H : Type} : Lit × DataW H → Nat
  | (.string bytes, d) => bytes.length + uptoBulk d + 1
  | (_, d) => uptoBulk d + 1
 end
def uptoSmall : (H : Type) → List (DataW H) → Bool := fun _ ds => decide (uptoBulkAll ds ≤ 1048576)
def OpenSpec.upto (s : _root_.Go.ChangeSpec) : _root_.Go.OpenSpec := { _root_.Go.OpenSpec.ofChange s with cond := some uptoSmall }

/-- 'laws.FnBlocks', WHERE WHAT IT READS IS OF BULK AT MOST 1048576: true; the input reads as it did. -/
def fnBlocksUptoRow : OpenClaim := { program := "ytfbjagjgofdheaagreatdoor", sum := "7b927fcdfea3d7355dac24edac4322bdcef7c19464c3b3f5b9dfc34041101881", func := "loop.example/s01595/laws.FnBlocks", spec := "fnBlocks", inPlace := ["internal/reflectlite.TypeOf", "internal/reflectlite.ValueOf", "(internal/reflectlite.Value).Type", "(internal/reflectlite.Value).IsNil", "(internal/reflectlite.Value).Elem", "(internal/reflectlite.Value).Set"], unfollowed := true, recurses := true, named := ["loop.example/s01595/impl.errKind", "loop.example/s01595/impl.errSize", "loop.example/s01595/impl.errSum", "errors.errorType", "loop.example/s01595/impl.errRest", "loop.example/s01595/impl.errNumber", "loop.example/s01595/impl.errBound"], ifaces := true, apart := false, laid := [("errors.errorType", laid_errors_errorType), ("loop.example/s01595/impl.errSize", laid_loop_example_s01595_impl_errSize), ("loop.example/s01595/impl.errSum", laid_loop_example_s01595_impl_errSum), ("loop.example/s01595/impl.errKind", laid_loop_example_s01595_impl_errKind), ("loop.example/s01595/impl.errNumber", laid_loop_example_s01595_impl_errNumber), ("loop.example/s01595/impl.errBound", laid_loop_example_s01595_impl_errBound), ("loop.example/s01595/impl.errRest", laid_loop_example_s01595_impl_errRest)], narrowed := true }
def FnBlocksUptoSaid : Prop := fnBlocksUptoRow.holds Tryz.pinned (OpenSpec.upto fnBlocksSpec)

end Rows
end Go.Proofs.YtfbjagjgofdheaaGreatDoor
