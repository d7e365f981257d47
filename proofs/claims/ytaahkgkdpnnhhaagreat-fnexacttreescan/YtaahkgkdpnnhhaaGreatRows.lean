/-
  No cell of these rows narrows 'for every input' (looked for: loops, veiled, ifaces, maps, wideKeys, modest, calm, conditions, laid).
  DERIVED. THE GIVEN ROWS OF THIS SEAT. 4 by the template 'for every input the law returns true; each argument reads behind the call as it read before'; 0 by the template 'total and deterministic' (their statements: YtaahkgkdpnnhhaaGreatTotals.lean).
  GIVEN WITH THE SEED: the statements are not yours to turn. If you find one false, say at which input.
  Laid BY PROGRAM, IN A SANDBOX (cutbox-rows.mjs): the forced cells as the released guide's own fill.sh prints them over the translation b8896e5f91e03290… (all of the seat's roots in one cut). By AI agents, Wed Nov 11 2026. No macro, syntax, notation, axiom, sorry.
-/
import Derived.Test.YtaahkgkdpnnhhaaGreatChecked
import GoSem.Claim
import GoSem.ClaimJoined
import GoSem.ClaimMapViews
import Derived.JoinedTies
import Derived.KernelRfl
namespace Go.Proofs.YtaahkgkdpnnhhaaGreat
/- THE CELL 'sum', in the pinned program and in every row, IS THE sha256 OF THE DUMP (.gsa) THAT YtaahkgkdpnnhhaaGreatProg.lean LOADS. Nothing in Lean hashes anything: it is a label: what it is worth is what the hold of that sum in a sandbox is worth. -/
noncomputable def Tryz.pinned : Pinned := { name := "ytaahkgkdpnnhhaagreat", sum := "b8896e5f91e03290e719a74a797c1744c9e24fad64d6920a62c5e5b0246c79eb", checked := Tryz.checked }
namespace Rows
def none {H : Type} : Left H := { results := [], args := [] }

/-- 'laws.FnExactTreeCounts': WHATEVER THE INPUT: true; the input reads as it did. -/
def fnExactTreeCountsSpec : ChangeSpec := { name := "fnExactTreeCounts", fn := fun _ => fun
  | [d1, d2] => { results := [.lit (.bool true)], args := [d1, d2] }
  | _ => none }
def fnExactTreeCountsRow : OpenClaim := { program := "ytaahkgkdpnnhhaagreat", sum := "b8896e5f91e03290e719a74a797c1744c9e24fad64d6920a62c5e5b0246c79eb", func := "loop.example/s01595/laws.FnExactTreeCounts", spec := "fnExactTreeCounts", inPlace := ["slices.overlaps[loop.example/s01595/impl.Entry]"], unfollowed := true, recurses := true, apart := false }
def FnExactTreeCountsSaid : Prop := fnExactTreeCountsRow.holds Tryz.pinned (OpenSpec.ofChange fnExactTreeCountsSpec)

/-- ITS FALSE NEIGHBOUR: 'it returns false'. Refute it at one input. -/
def fnExactTreeCountsWrong : ChangeSpec := { name := "fnExactTreeCounts", fn := fun _ => fun
  | [d1, d2] => { results := [.lit (.bool false)], args := [d1, d2] }
  | _ => none }
def FnExactTreeCountsWrongFalsely : Prop := fnExactTreeCountsRow.holds Tryz.pinned (OpenSpec.ofChange fnExactTreeCountsWrong)

/-- 'laws.FnExactTreeShape': WHATEVER THE INPUT: true; the input reads as it did. -/
def fnExactTreeShapeSpec : ChangeSpec := { name := "fnExactTreeShape", fn := fun _ => fun
  | [d1, d2, d3] => { results := [.lit (.bool true)], args := [d1, d2, d3] }
  | _ => none }
def fnExactTreeShapeRow : OpenClaim := { program := "ytaahkgkdpnnhhaagreat", sum := "b8896e5f91e03290e719a74a797c1744c9e24fad64d6920a62c5e5b0246c79eb", func := "loop.example/s01595/laws.FnExactTreeShape", spec := "fnExactTreeShape", inPlace := ["slices.overlaps[loop.example/s01595/impl.Entry]"], unfollowed := true, recurses := true, apart := false }
def FnExactTreeShapeSaid : Prop := fnExactTreeShapeRow.holds Tryz.pinned (OpenSpec.ofChange fnExactTreeShapeSpec)

/-- ITS FALSE NEIGHBOUR: 'it returns false'. Refute it at one input. -/
def fnExactTreeShapeWrong : ChangeSpec := { name := "fnExactTreeShape", fn := fun _ => fun
  | [d1, d2, d3] => { results := [.lit (.bool false)], args := [d1, d2, d3] }
  | _ => none }
def FnExactTreeShapeWrongFalsely : Prop := fnExactTreeShapeRow.holds Tryz.pinned (OpenSpec.ofChange fnExactTreeShapeWrong)

/-- 'laws.FnExactTreeScan': WHATEVER THE INPUT: true; the input reads as it did. -/
def fnExactTreeScanSpec : ChangeSpec := { name := "fnExactTreeScan", fn := fun _ => fun
  | [d1, d2, d3, d4, d5] => { results := [.lit (.bool true)], args := [d1, d2, d3, d4, d5] }
  | _ => none }
def fnExactTreeScanRow : OpenClaim := { program := "ytaahkgkdpnnhhaagreat", sum := "b8896e5f91e03290e719a74a797c1744c9e24fad64d6920a62c5e5b0246c79eb", func := "loop.example/s01595/laws.FnExactTreeScan", spec := "fnExactTreeScan", inPlace := ["slices.overlaps[loop.example/s01595/impl.Entry]"], unfollowed := true, recurses := true, apart := false }
def FnExactTreeScanSaid : Prop := fnExactTreeScanRow.holds Tryz.pinned (OpenSpec.ofChange fnExactTreeScanSpec)

/-- ITS FALSE NEIGHBOUR: 'it returns false'. Refute it at one input. -/
def fnExactTreeScanWrong : ChangeSpec := { name := "fnExactTreeScan", fn := fun _ => fun
  | [d1, d2, d3, d4, d5] => { results := [.lit (.bool false)], args := [d1, d2, d3, d4, d5] }
  | _ => none }
def FnExactTreeScanWrongFalsely : Prop := fnExactTreeScanRow.holds Tryz.pinned (OpenSpec.ofChange fnExactTreeScanWrong)

/-- 'laws.FnExactTreeRun': WHATEVER THE INPUT: true; the input reads as it did. -/
def fnExactTreeRunSpec : ChangeSpec := { name := "fnExactTreeRun", fn := fun _ => fun
  | [d1, d2] => { results := [.lit (.bool true)], args := [d1, d2] }
  | _ => none }
def fnExactTreeRunRow : OpenClaim := { program := "ytaahkgkdpnnhhaagreat", sum := "b8896e5f91e03290e719a74a797c1744c9e24fad64d6920a62c5e5b0246c79eb", func := "loop.example/s01595/laws.FnExactTreeRun", spec := "fnExactTreeRun", inPlace := ["slices.overlaps[loop.example/s01595/impl.Entry]"], unfollowed := true, recurses := true, apart := false }
def FnExactTreeRunSaid : Prop := fnExactTreeRunRow.holds Tryz.pinned (OpenSpec.ofChange fnExactTreeRunSpec)

/-- ITS FALSE NEIGHBOUR: 'it returns false'. Refute it at one input. -/
def fnExactTreeRunWrong : ChangeSpec := { name := "fnExactTreeRun", fn := fun _ => fun
  | [d1, d2] => { results := [.lit (.bool false)], args := [d1, d2] }
  | _ => none }
def FnExactTreeRunWrongFalsely : Prop := fnExactTreeRunRow.holds Tryz.pinned (OpenSpec.ofChange fnExactTreeRunWrong)

/- THE SECOND FORM. 'bulk': how many values and letters a reading holds, each counted each time it is reached (what is shared counts as often as it is met; a slice's spare places count too). A statement '..UptoSaid' is the law's where the arguments, and the package variables that the reading takes, are together of bulk at most 1048576: NARROWER than '..Said'. Prove '..Said' where nothing that the law and all that it calls make is longer than what came in: it says more and counts as full. Else prove '..UptoSaid'. A law counts once. -/
mutual
def uptoBulk {H : Type} : DataW H → Nat
  | .lit (.string bytes) => bytes.length + 1
  | .lit _ => 1
  | .nil => 1
  | .ptr d => uptoBulk d + 1
  | .slice elems spare => uptoBulkAll elems + uptoBulkAll spare + 1
  | .agg parts => uptoBulkAll parts + 1
  | .iface _ d => uptoBulk d + 1
  | .map entries => uptoBulkEntries entries + 1
  | .held _ => 1
def uptoBulkAll {H : Type} : List (DataW H) → Nat
  | [] => 0
  | d :: r => uptoBulk d + uptoBulkAll r
def uptoBulkEntries {H : Type} : List (Lit × DataW H) → Nat
  | [] => 0
  | x :: r => uptoBulkEntry x + uptoBulkEntries r
def uptoBulkEntry {H : Type} : Lit × DataW H → Nat
  | (.string bytes, d) => bytes.length + uptoBulk d + 1
  | (_, d) => uptoBulk d + 1
 end
def uptoSmall : (H : Type) → List (DataW H) → Bool := fun _ ds => decide (uptoBulkAll ds ≤ 1048576)
def OpenSpec.upto (s : _root_.Go.ChangeSpec) : _root_.Go.OpenSpec := { _root_.Go.OpenSpec.ofChange s with cond := some uptoSmall }

/-- 'laws.FnExactTreeCounts', WHERE WHAT IT READS IS OF BULK AT MOST 1048576: true; the input reads as it did. -/
def fnExactTreeCountsUptoRow : OpenClaim := { program := "ytaahkgkdpnnhhaagreat", sum := "b8896e5f91e03290e719a74a797c1744c9e24fad64d6920a62c5e5b0246c79eb", func := "loop.example/s01595/laws.FnExactTreeCounts", spec := "fnExactTreeCounts", inPlace := ["slices.overlaps[loop.example/s01595/impl.Entry]"], unfollowed := true, recurses := true, apart := false, narrowed := true }
def FnExactTreeCountsUptoSaid : Prop := fnExactTreeCountsUptoRow.holds Tryz.pinned (OpenSpec.upto fnExactTreeCountsSpec)

/-- 'laws.FnExactTreeShape', WHERE WHAT IT READS IS OF BULK AT MOST 1048576: true; the input reads as it did. -/
def fnExactTreeShapeUptoRow : OpenClaim := { program := "ytaahkgkdpnnhhaagreat", sum := "b8896e5f91e03290e719a74a797c1744c9e24fad64d6920a62c5e5b0246c79eb", func := "loop.example/s01595/laws.FnExactTreeShape", spec := "fnExactTreeShape", inPlace := ["slices.overlaps[loop.example/s01595/impl.Entry]"], unfollowed := true, recurses := true, apart := false, narrowed := true }
def FnExactTreeShapeUptoSaid : Prop := fnExactTreeShapeUptoRow.holds Tryz.pinned (OpenSpec.upto fnExactTreeShapeSpec)

/-- 'laws.FnExactTreeScan', WHERE WHAT IT READS IS OF BULK AT MOST 1048576: true; the input reads as it did. -/
def fnExactTreeScanUptoRow : OpenClaim := { program := "ytaahkgkdpnnhhaagreat", sum := "b8896e5f91e03290e719a74a797c1744c9e24fad64d6920a62c5e5b0246c79eb", func := "loop.example/s01595/laws.FnExactTreeScan", spec := "fnExactTreeScan", inPlace := ["slices.overlaps[loop.example/s01595/impl.Entry]"], unfollowed := true, recurses := true, apart := false, narrowed := true }
def FnExactTreeScanUptoSaid : Prop := fnExactTreeScanUptoRow.holds Tryz.pinned (OpenSpec.upto fnExactTreeScanSpec)

/-- 'laws.FnExactTreeRun', WHERE WHAT IT READS IS OF BULK AT MOST 1048576: true; the input reads as it did. -/
def fnExactTreeRunUptoRow : OpenClaim := { program := "ytaahkgkdpnnhhaagreat", sum := "b8896e5f91e03290e719a74a797c1744c9e24fad64d6920a62c5e5b0246c79eb", func := "loop.example/s01595/laws.FnExactTreeRun", spec := "fnExactTreeRun", inPlace := ["slices.overlaps[loop.example/s01595/impl.Entry]"], unfollowed := true, recurses := true, apart := false, narrowed := true }
def FnExactTreeRunUptoSaid : Prop := fnExactTreeRunUptoRow.holds Tryz.pinned (OpenSpec.upto fnExactTreeRunSpec)

end Rows
end Go.Proofs.YtaahkgkdpnnhhaaGreat
