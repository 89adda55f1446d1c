/-
  DERIVED. GIVEN WITH THE SEED: THE CARDS: each row of YtjgpjafndaikcaaDoorRows.lean that lists a variable, with what it lists TIED to the program's text (the seventh form; the later family's looks); each row that meets fmt, with fmt's text TOLD by the authors' own Lean function (tested against real Go, not proved from fmt's source: count such statements apart). THE CARD IS WHAT COUNTS. Prove the row's statement (the work); the ties are given (YtjgpjafndaikcaaDoorTie.lean); close each card by the builder's one call (the guide's Derived/Test/ToyasCard.lean, 'card_holds'). Laid BY PROGRAM, IN A SANDBOX (cutbox-door.mjs). By AI agents, Wed Nov 11 2026. No macro, syntax, notation, axiom, sorry.
-/
import Derived.Test.YtjgpjafndaikcaaDoorRows
import GoSem.ClaimSeven
namespace Go.Proofs.YtjgpjafndaikcaaDoor
namespace Rows

/-- THE TIED CARD OF 'laws.FnExactGoodSymbol'. -/
def fnExactGoodSymbolCard : Claim7 := { stood := { row := fnExactGoodSymbolRow, standIns := [], harness := (true, "ffa213b2f640b5b810bbfd1e1a175b3dc759b09945b175bee24eeedf52205c87"), looks := false }, kinds := [], alts := [], laidByText := true, laidKinds := [.data, .data, .data], laidTests := true, laidLooks := .later }
def FnExactGoodSymbolCardSaid : Prop := Claim7.holds Tryd.pinned (.plain (OpenSpec.ofChange fnExactGoodSymbolSpec)) fnExactGoodSymbolCard

/-- THE SECOND FORM's CARD OF 'laws.FnExactGoodSymbol'. -/
def fnExactGoodSymbolUptoCard : Claim7 := { stood := { row := fnExactGoodSymbolUptoRow, standIns := [], harness := (true, "ffa213b2f640b5b810bbfd1e1a175b3dc759b09945b175bee24eeedf52205c87"), looks := false }, kinds := [], alts := [], laidByText := true, laidKinds := [.data, .data, .data], laidTests := true, laidLooks := .later }
def FnExactGoodSymbolUptoCardSaid : Prop := Claim7.holds Tryd.pinned (.plain (OpenSpec.upto fnExactGoodSymbolSpec)) fnExactGoodSymbolUptoCard
end Rows
end Go.Proofs.YtjgpjafndaikcaaDoor
