/-
  DERIVED. GIVEN WITH THE SEED: THE CARDS: each row of YthcflbidjlediaaDoorRows.lean that lists a variable, with what it lists TIED to the program's text (the seventh form; the later family's looks); each row that meets fmt, with fmt's text TOLD by the authors' own Lean function (tested against real Go, not proved from fmt's source: count such statements apart). THE CARD IS WHAT COUNTS. Prove the row's statement (the work); the ties are given (YthcflbidjlediaaDoorTie.lean); close each card by the builder's one call (the guide's Derived/Test/ToyasCard.lean, 'card_holds'). Laid BY PROGRAM, IN A SANDBOX (cutbox-door.mjs). By AI agents, Wed Nov 11 2026. No macro, syntax, notation, axiom, sorry.
-/
import Derived.Test.YthcflbidjlediaaDoorRows
import GoSem.ClaimSeven
namespace Go.Proofs.YthcflbidjlediaaDoor
namespace Rows

/-- THE TIED CARD OF 'laws.FnExactCountsOf'. -/
def fnExactCountsOfCard : Claim7 := { stood := { row := fnExactCountsOfRow, standIns := [], harness := (true, "02f363168940d6b29726c5143591a12873be558abe75708e6d8131ff7519b40e"), looks := true }, kinds := [], alts := [], laidByText := true, laidKinds := [.handle, .sentinel, .sentinel, .sentinel, .sentinel], laidTests := true, laidLooks := .later }
def FnExactCountsOfCardSaid : Prop := Claim7.holds Tryd.pinned (.plain (OpenSpec.ofChange fnExactCountsOfSpec)) fnExactCountsOfCard

/-- THE SECOND FORM's CARD OF 'laws.FnExactCountsOf'. -/
def fnExactCountsOfUptoCard : Claim7 := { stood := { row := fnExactCountsOfUptoRow, standIns := [], harness := (true, "02f363168940d6b29726c5143591a12873be558abe75708e6d8131ff7519b40e"), looks := true }, kinds := [], alts := [], laidByText := true, laidKinds := [.handle, .sentinel, .sentinel, .sentinel, .sentinel], laidTests := true, laidLooks := .later }
def FnExactCountsOfUptoCardSaid : Prop := Claim7.holds Tryd.pinned (.plain (OpenSpec.upto fnExactCountsOfSpec)) fnExactCountsOfUptoCard
end Rows
end Go.Proofs.YthcflbidjlediaaDoor
