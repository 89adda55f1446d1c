/-
  DERIVED. GIVEN WITH THE SEED: THE CARDS: each row of YtfdlncaplalenaaDoorRows.lean that lists a variable, with what it lists TIED to the program's text (the seventh form; the later family's looks); each row that meets fmt, with fmt's text TOLD by the authors' own Lean function (tested against real Go, not proved from fmt's source: count such statements apart). THE CARD IS WHAT COUNTS. Prove the row's statement (the work); the ties are given (YtfdlncaplalenaaDoorTie.lean); close each card by the builder's one call (the guide's Derived/Test/ToyasCard.lean, 'card_holds'). Laid BY PROGRAM, IN A SANDBOX (cutbox-door.mjs). By AI agents, Wed Nov 11 2026. No macro, syntax, notation, axiom, sorry.
-/
import Derived.Test.YtfdlncaplalenaaDoorRows
import GoSem.ClaimSeven
namespace Go.Proofs.YtfdlncaplalenaaDoor
namespace Rows

/-- THE TIED CARD OF 'laws.FnHalves'. -/
def fnHalvesCard : Claim7 := { stood := { row := fnHalvesRow, standIns := [], harness := (true, "4840f860a0be3107c29295a71ad37796a78e156fe608b074bccc835047e39a39"), looks := false }, kinds := [], alts := [], laidByText := true, laidKinds := [.data, .data, .data], laidTests := true, laidLooks := .later }
def FnHalvesCardSaid : Prop := Claim7.holds Tryd.pinned (.plain (OpenSpec.ofChange fnHalvesSpec)) fnHalvesCard

/-- THE SECOND FORM's CARD OF 'laws.FnHalves'. -/
def fnHalvesUptoCard : Claim7 := { stood := { row := fnHalvesUptoRow, standIns := [], harness := (true, "4840f860a0be3107c29295a71ad37796a78e156fe608b074bccc835047e39a39"), looks := false }, kinds := [], alts := [], laidByText := true, laidKinds := [.data, .data, .data], laidTests := true, laidLooks := .later }
def FnHalvesUptoCardSaid : Prop := Claim7.holds Tryd.pinned (.plain (OpenSpec.upto fnHalvesSpec)) fnHalvesUptoCard
end Rows
end Go.Proofs.YtfdlncaplalenaaDoor
