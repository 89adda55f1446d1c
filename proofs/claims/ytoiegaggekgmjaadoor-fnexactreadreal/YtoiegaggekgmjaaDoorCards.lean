/-
  DERIVED. GIVEN WITH THE SEED: THE CARDS: each row of YtoiegaggekgmjaaDoorRows.lean that lists a variable, with what it lists TIED to the program's text (the seventh form; the later family's looks); each row that meets fmt, with fmt's text TOLD by the authors' own Lean function (tested against real Go, not proved from fmt's source: count such statements apart). THE CARD IS WHAT COUNTS. Prove the row's statement (the work); the ties are given (YtoiegaggekgmjaaDoorTie.lean); close each card by the builder's one call (the guide's Derived/Test/ToyasCard.lean, 'card_holds'). Laid BY PROGRAM, IN A SANDBOX (cutbox-door.mjs). By AI agents, Wed Nov 11 2026. No macro, syntax, notation, axiom, sorry.
-/
import Derived.Test.YtoiegaggekgmjaaDoorRows
import GoSem.ClaimSeven
namespace Go.Proofs.YtoiegaggekgmjaaDoor
namespace Rows

/-- THE TIED CARD OF 'laws.FnExactReadReal'. -/
def fnExactReadRealCard : Claim7 := { stood := { row := fnExactReadRealRow, standIns := [], harness := (true, "7bd13b7b5fb97f1bfa9dbca5893b31bdd60d4b9834f84f547f0fa1d01223eeeb"), looks := true }, kinds := [], alts := [], laidByText := true, laidKinds := [.data, .data, .data, .sentinel, .sentinel], laidTests := true, laidLooks := .later }
def FnExactReadRealCardSaid : Prop := Claim7.holds Tryd.pinned (.plain (OpenSpec.ofChange fnExactReadRealSpec)) fnExactReadRealCard

/-- THE SECOND FORM's CARD OF 'laws.FnExactReadReal'. -/
def fnExactReadRealUptoCard : Claim7 := { stood := { row := fnExactReadRealUptoRow, standIns := [], harness := (true, "7bd13b7b5fb97f1bfa9dbca5893b31bdd60d4b9834f84f547f0fa1d01223eeeb"), looks := true }, kinds := [], alts := [], laidByText := true, laidKinds := [.data, .data, .data, .sentinel, .sentinel], laidTests := true, laidLooks := .later }
def FnExactReadRealUptoCardSaid : Prop := Claim7.holds Tryd.pinned (.plain (OpenSpec.upto fnExactReadRealSpec)) fnExactReadRealUptoCard
end Rows
end Go.Proofs.YtoiegaggekgmjaaDoor
