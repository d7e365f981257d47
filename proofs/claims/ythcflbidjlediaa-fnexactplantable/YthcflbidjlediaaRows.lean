/-
  No cell of these rows narrows 'for every input' (looked for: loops, veiled, ifaces, maps, wideKeys, modest, calm, conditions, laid).
  DERIVED. THE GIVEN ROWS OF THIS SEAT. 5 by the template 'for every input the law returns true; each argument reads behind the call as it read before'; 0 by the template 'total and deterministic' (their statements: YthcflbidjlediaaTotals.lean).
  GIVEN WITH THE SEED: the statements are not yours to turn. If you find one false, say at which input.
  Laid BY PROGRAM, IN A SANDBOX (cutbox-rows.mjs): the forced cells as the released guide's own fill.sh prints them over the translation 87b25651374bdcd7… (all of the seat's roots in one cut). By AI agents, Wed Nov 11 2026. No macro, syntax, notation, axiom, sorry.
-/
import Derived.Test.YthcflbidjlediaaChecked
import GoSem.Claim
import GoSem.ClaimJoined
import GoSem.ClaimMapViews
import Derived.JoinedTies
import Derived.KernelRfl
namespace Go.Proofs.Ythcflbidjlediaa
/- THE CELL 'sum', in the pinned program and in every row, IS THE sha256 OF THE DUMP (.gsa) THAT YthcflbidjlediaaProg.lean LOADS. Nothing in Lean hashes anything: it is a label: what it is worth is what the hold of that sum in a sandbox is worth. -/
noncomputable def Try.pinned : Pinned := { name := "ythcflbidjlediaa", sum := "87b25651374bdcd781112a1f69ad6c1825faa4d89eeda2f7403333e216338d9a", checked := Try.checked }
namespace Rows
def none {H : Type} : Left H := { results := [], args := [] }

/-- 'laws.FnExactReserve': WHATEVER THE INPUT: true; the input reads as it did. -/
def fnExactReserveSpec : ChangeSpec := { name := "fnExactReserve", fn := fun _ => fun
  | [d] => { results := [.lit (.bool true)], args := [d] }
  | _ => none }
def fnExactReserveRow : OpenClaim := { program := "ythcflbidjlediaa", sum := "87b25651374bdcd781112a1f69ad6c1825faa4d89eeda2f7403333e216338d9a", func := "loop.example/s01595/laws.FnExactReserve", spec := "fnExactReserve", apart := false }
def FnExactReserveSaid : Prop := fnExactReserveRow.holds Try.pinned (OpenSpec.ofChange fnExactReserveSpec)

/-- ITS FALSE NEIGHBOUR: 'it returns false'. Refute it at one input. -/
def fnExactReserveWrong : ChangeSpec := { name := "fnExactReserve", fn := fun _ => fun
  | [d] => { results := [.lit (.bool false)], args := [d] }
  | _ => none }
def FnExactReserveWrongFalsely : Prop := fnExactReserveRow.holds Try.pinned (OpenSpec.ofChange fnExactReserveWrong)

/-- 'laws.FnExactLowestFree': WHATEVER THE INPUT: true; the input reads as it did. -/
def fnExactLowestFreeSpec : ChangeSpec := { name := "fnExactLowestFree", fn := fun _ => fun
  | [d1, d2] => { results := [.lit (.bool true)], args := [d1, d2] }
  | _ => none }
def fnExactLowestFreeRow : OpenClaim := { program := "ythcflbidjlediaa", sum := "87b25651374bdcd781112a1f69ad6c1825faa4d89eeda2f7403333e216338d9a", func := "loop.example/s01595/laws.FnExactLowestFree", spec := "fnExactLowestFree", unfollowed := true, recurses := true, apart := false }
def FnExactLowestFreeSaid : Prop := fnExactLowestFreeRow.holds Try.pinned (OpenSpec.ofChange fnExactLowestFreeSpec)

/-- ITS FALSE NEIGHBOUR: 'it returns false'. Refute it at one input. -/
def fnExactLowestFreeWrong : ChangeSpec := { name := "fnExactLowestFree", fn := fun _ => fun
  | [d1, d2] => { results := [.lit (.bool false)], args := [d1, d2] }
  | _ => none }
def FnExactLowestFreeWrongFalsely : Prop := fnExactLowestFreeRow.holds Try.pinned (OpenSpec.ofChange fnExactLowestFreeWrong)

/-- 'laws.FnExactClassify': WHATEVER THE INPUT: true; the input reads as it did. -/
def fnExactClassifySpec : ChangeSpec := { name := "fnExactClassify", fn := fun _ => fun
  | [d1, d2] => { results := [.lit (.bool true)], args := [d1, d2] }
  | _ => none }
def fnExactClassifyRow : OpenClaim := { program := "ythcflbidjlediaa", sum := "87b25651374bdcd781112a1f69ad6c1825faa4d89eeda2f7403333e216338d9a", func := "loop.example/s01595/laws.FnExactClassify", spec := "fnExactClassify", apart := false }
def FnExactClassifySaid : Prop := fnExactClassifyRow.holds Try.pinned (OpenSpec.ofChange fnExactClassifySpec)

/-- ITS FALSE NEIGHBOUR: 'it returns false'. Refute it at one input. -/
def fnExactClassifyWrong : ChangeSpec := { name := "fnExactClassify", fn := fun _ => fun
  | [d1, d2] => { results := [.lit (.bool false)], args := [d1, d2] }
  | _ => none }
def FnExactClassifyWrongFalsely : Prop := fnExactClassifyRow.holds Try.pinned (OpenSpec.ofChange fnExactClassifyWrong)

/-- 'laws.FnExactRunsOf': WHATEVER THE INPUT: true; the input reads as it did. -/
def fnExactRunsOfSpec : ChangeSpec := { name := "fnExactRunsOf", fn := fun _ => fun
  | [d] => { results := [.lit (.bool true)], args := [d] }
  | _ => none }
def fnExactRunsOfRow : OpenClaim := { program := "ythcflbidjlediaa", sum := "87b25651374bdcd781112a1f69ad6c1825faa4d89eeda2f7403333e216338d9a", func := "loop.example/s01595/laws.FnExactRunsOf", spec := "fnExactRunsOf", apart := false }
def FnExactRunsOfSaid : Prop := fnExactRunsOfRow.holds Try.pinned (OpenSpec.ofChange fnExactRunsOfSpec)

/-- ITS FALSE NEIGHBOUR: 'it returns false'. Refute it at one input. -/
def fnExactRunsOfWrong : ChangeSpec := { name := "fnExactRunsOf", fn := fun _ => fun
  | [d] => { results := [.lit (.bool false)], args := [d] }
  | _ => none }
def FnExactRunsOfWrongFalsely : Prop := fnExactRunsOfRow.holds Try.pinned (OpenSpec.ofChange fnExactRunsOfWrong)

/-- 'laws.FnExactPlanTable': WHATEVER THE INPUT: true; the input reads as it did. -/
def fnExactPlanTableSpec : ChangeSpec := { name := "fnExactPlanTable", fn := fun _ => fun
  | [d1, d2] => { results := [.lit (.bool true)], args := [d1, d2] }
  | _ => none }
def fnExactPlanTableRow : OpenClaim := { program := "ythcflbidjlediaa", sum := "87b25651374bdcd781112a1f69ad6c1825faa4d89eeda2f7403333e216338d9a", func := "loop.example/s01595/laws.FnExactPlanTable", spec := "fnExactPlanTable", unfollowed := true, recurses := true, apart := false }
def FnExactPlanTableSaid : Prop := fnExactPlanTableRow.holds Try.pinned (OpenSpec.ofChange fnExactPlanTableSpec)

/-- ITS FALSE NEIGHBOUR: 'it returns false'. Refute it at one input. -/
def fnExactPlanTableWrong : ChangeSpec := { name := "fnExactPlanTable", fn := fun _ => fun
  | [d1, d2] => { results := [.lit (.bool false)], args := [d1, d2] }
  | _ => none }
def FnExactPlanTableWrongFalsely : Prop := fnExactPlanTableRow.holds Try.pinned (OpenSpec.ofChange fnExactPlanTableWrong)

/- THE SECOND FORM. 'bulk': how many values and letters a reading holds, each counted each time it is reached (what is shared counts as often as it is met; a slice's spare places count too). A statement '..UptoSaid' is the law's where the arguments, and the package variables that the reading takes, are together of bulk at most 1048576: NARROWER than '..Said'. Prove '..Said' where nothing that the law and all that it calls make is longer than what came in: it says more and counts as full. Else prove '..UptoSaid'. A law counts once. -/
mutual
def uptoBulk {H : Type} : DataW H → Nat
  | .lit (.string bytes) => bytes.length + 1
  | .lit _ => 1
  | .nil => 1
  | .ptr d => uptoBulk d + 1
  | .slice elems spare => uptoBulkAll elems + uptoBulkAll spare + 1
  | .agg parts => uptoBulkAll parts + 1
  | .iface _ d => uptoBulk d + 1
  | .map entries => uptoBulkEntries entries + 1
  | .held _ => 1
def uptoBulkAll {H : Type} : List (DataW H) → Nat
  | [] => 0
  | d :: r => uptoBulk d + uptoBulkAll r
def uptoBulkEntries {H : Type} : List (Lit × DataW H) → Nat
  | [] => 0
  | x :: r => uptoBulkEntry x + uptoBulkEntries r
def uptoBulkEntry {H : Type} : Lit × DataW H → Nat
  | (.string bytes, d) => bytes.length + uptoBulk d + 1
  | (_, d) => uptoBulk d + 1
 end
def uptoSmall : (H : Type) → List (DataW H) → Bool := fun _ ds => decide (uptoBulkAll ds ≤ 1048576)
def OpenSpec.upto (s : _root_.Go.ChangeSpec) : _root_.Go.OpenSpec := { _root_.Go.OpenSpec.ofChange s with cond := some uptoSmall }

/-- 'laws.FnExactReserve', WHERE WHAT IT READS IS OF BULK AT MOST 1048576: true; the input reads as it did. -/
def fnExactReserveUptoRow : OpenClaim := { program := "ythcflbidjlediaa", sum := "87b25651374bdcd781112a1f69ad6c1825faa4d89eeda2f7403333e216338d9a", func := "loop.example/s01595/laws.FnExactReserve", spec := "fnExactReserve", apart := false, narrowed := true }
def FnExactReserveUptoSaid : Prop := fnExactReserveUptoRow.holds Try.pinned (OpenSpec.upto fnExactReserveSpec)

/-- 'laws.FnExactLowestFree', WHERE WHAT IT READS IS OF BULK AT MOST 1048576: true; the input reads as it did. -/
def fnExactLowestFreeUptoRow : OpenClaim := { program := "ythcflbidjlediaa", sum := "87b25651374bdcd781112a1f69ad6c1825faa4d89eeda2f7403333e216338d9a", func := "loop.example/s01595/laws.FnExactLowestFree", spec := "fnExactLowestFree", unfollowed := true, recurses := true, apart := false, narrowed := true }
def FnExactLowestFreeUptoSaid : Prop := fnExactLowestFreeUptoRow.holds Try.pinned (OpenSpec.upto fnExactLowestFreeSpec)

/-- 'laws.FnExactClassify', WHERE WHAT IT READS IS OF BULK AT MOST 1048576: true; the input reads as it did. -/
def fnExactClassifyUptoRow : OpenClaim := { program := "ythcflbidjlediaa", sum := "87b25651374bdcd781112a1f69ad6c1825faa4d89eeda2f7403333e216338d9a", func := "loop.example/s01595/laws.FnExactClassify", spec := "fnExactClassify", apart := false, narrowed := true }
def FnExactClassifyUptoSaid : Prop := fnExactClassifyUptoRow.holds Try.pinned (OpenSpec.upto fnExactClassifySpec)

/-- 'laws.FnExactRunsOf', WHERE WHAT IT READS IS OF BULK AT MOST 1048576: true; the input reads as it did. -/
def fnExactRunsOfUptoRow : OpenClaim := { program := "ythcflbidjlediaa", sum := "87b25651374bdcd781112a1f69ad6c1825faa4d89eeda2f7403333e216338d9a", func := "loop.example/s01595/laws.FnExactRunsOf", spec := "fnExactRunsOf", apart := false, narrowed := true }
def FnExactRunsOfUptoSaid : Prop := fnExactRunsOfUptoRow.holds Try.pinned (OpenSpec.upto fnExactRunsOfSpec)

/-- 'laws.FnExactPlanTable', WHERE WHAT IT READS IS OF BULK AT MOST 1048576: true; the input reads as it did. -/
def fnExactPlanTableUptoRow : OpenClaim := { program := "ythcflbidjlediaa", sum := "87b25651374bdcd781112a1f69ad6c1825faa4d89eeda2f7403333e216338d9a", func := "loop.example/s01595/laws.FnExactPlanTable", spec := "fnExactPlanTable", unfollowed := true, recurses := true, apart := false, narrowed := true }
def FnExactPlanTableUptoSaid : Prop := fnExactPlanTableUptoRow.holds Try.pinned (OpenSpec.upto fnExactPlanTableSpec)

end Rows
end Go.Proofs.Ythcflbidjlediaa
