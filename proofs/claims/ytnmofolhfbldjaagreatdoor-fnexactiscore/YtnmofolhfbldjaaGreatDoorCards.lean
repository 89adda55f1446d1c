/-
  DERIVED. GIVEN WITH THE SEED: THE CARDS: each row of YtnmofolhfbldjaaGreatDoorRows.lean that lists a variable, with what it lists TIED to the program's text (the seventh form; the later family's looks); each row that meets fmt, with fmt's text TOLD by the authors' own Lean function (tested against real Go, not proved from fmt's source: count such statements apart). THE CARD IS WHAT COUNTS. Prove the row's statement (the work); the ties are given (YtnmofolhfbldjaaGreatDoorTie.lean); close each card by the builder's one call (the guide's Derived/Test/ToyasCard.lean, 'card_holds'). Laid BY PROGRAM, IN A SANDBOX (cutbox-door.mjs). By AI agents, Wed Nov 11 2026. No macro, syntax, notation, axiom, sorry.
-/
import Derived.Test.YtnmofolhfbldjaaGreatDoorRows
import GoSem.ClaimSeven
namespace Go.Proofs.YtnmofolhfbldjaaGreatDoor
namespace Rows

/-- THE TIED CARD OF 'laws.FnExactIsCore'. -/
def fnExactIsCoreCard : Claim7 := { stood := { row := fnExactIsCoreRow, standIns := [], harness := (true, "7cae963997508081305b346d348762cface46df78e5e03f053cf42a584e6db24"), looks := false }, kinds := [], alts := [], laidByText := true, laidKinds := [.data, .data, .data], laidTests := true, laidLooks := .later }
def FnExactIsCoreCardSaid : Prop := Claim7.holds Tryz.pinned (.plain (OpenSpec.ofChange fnExactIsCoreSpec)) fnExactIsCoreCard

/-- THE SECOND FORM's CARD OF 'laws.FnExactIsCore'. -/
def fnExactIsCoreUptoCard : Claim7 := { stood := { row := fnExactIsCoreUptoRow, standIns := [], harness := (true, "7cae963997508081305b346d348762cface46df78e5e03f053cf42a584e6db24"), looks := false }, kinds := [], alts := [], laidByText := true, laidKinds := [.data, .data, .data], laidTests := true, laidLooks := .later }
def FnExactIsCoreUptoCardSaid : Prop := Claim7.holds Tryz.pinned (.plain (OpenSpec.upto fnExactIsCoreSpec)) fnExactIsCoreUptoCard
end Rows
end Go.Proofs.YtnmofolhfbldjaaGreatDoor
