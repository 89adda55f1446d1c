/-
  DERIVED. GIVEN WITH THE SEED: THE CARDS: each row of YtkmjpebfaodfaaaDoorRows.lean that lists a variable, with what it lists TIED to the program's text (the seventh form; the later family's looks); each row that meets fmt, with fmt's text TOLD by the authors' own Lean function (tested against real Go, not proved from fmt's source: count such statements apart). THE CARD IS WHAT COUNTS. Prove the row's statement (the work); the ties are given (YtkmjpebfaodfaaaDoorTie.lean); close each card by the builder's one call (the guide's Derived/Test/ToyasCard.lean, 'card_holds'). Laid BY PROGRAM, IN A SANDBOX (cutbox-door.mjs). By AI agents, Wed Nov 11 2026. No macro, syntax, notation, axiom, sorry.
-/
import Derived.Test.YtkmjpebfaodfaaaDoorRows
import GoSem.ClaimSeven
namespace Go.Proofs.YtkmjpebfaodfaaaDoor
namespace Rows

/-- THE TIED CARD OF 'laws.FnExactDepthsOf'. -/
def fnExactDepthsOfCard : Claim7 := { stood := { row := fnExactDepthsOfRow, standIns := [], harness := (true, "1d9a609575c4ae9a9fc946d06c770a976f37d625ef4a5f4f7599398acfc73da8"), looks := true }, kinds := [], alts := [], laidByText := true, laidKinds := [.handle, .sentinel, .sentinel, .sentinel], laidTests := true, laidLooks := .later }
def FnExactDepthsOfCardSaid : Prop := Claim7.holds Tryd.pinned (.plain (OpenSpec.ofChange fnExactDepthsOfSpec)) fnExactDepthsOfCard

/-- THE TIED CARD OF 'laws.FnExactCodeText'. -/
def fnExactCodeTextCard : Claim7 := { stood := { row := fnExactCodeTextRow, standIns := [], harness := (true, "1d9a609575c4ae9a9fc946d06c770a976f37d625ef4a5f4f7599398acfc73da8"), looks := true }, kinds := [], alts := [], laidByText := true, laidKinds := [.data, .data, .data], laidTests := true, laidLooks := .later }
def FnExactCodeTextCardSaid : Prop := Claim7.holds Tryd.pinned (.plain (OpenSpec.ofChange fnExactCodeTextSpec)) fnExactCodeTextCard

/-- THE SECOND FORM's CARD OF 'laws.FnExactDepthsOf'. -/
def fnExactDepthsOfUptoCard : Claim7 := { stood := { row := fnExactDepthsOfUptoRow, standIns := [], harness := (true, "1d9a609575c4ae9a9fc946d06c770a976f37d625ef4a5f4f7599398acfc73da8"), looks := true }, kinds := [], alts := [], laidByText := true, laidKinds := [.handle, .sentinel, .sentinel, .sentinel], laidTests := true, laidLooks := .later }
def FnExactDepthsOfUptoCardSaid : Prop := Claim7.holds Tryd.pinned (.plain (OpenSpec.upto fnExactDepthsOfSpec)) fnExactDepthsOfUptoCard

/-- THE SECOND FORM's CARD OF 'laws.FnExactCodeText'. -/
def fnExactCodeTextUptoCard : Claim7 := { stood := { row := fnExactCodeTextUptoRow, standIns := [], harness := (true, "1d9a609575c4ae9a9fc946d06c770a976f37d625ef4a5f4f7599398acfc73da8"), looks := true }, kinds := [], alts := [], laidByText := true, laidKinds := [.data, .data, .data], laidTests := true, laidLooks := .later }
def FnExactCodeTextUptoCardSaid : Prop := Claim7.holds Tryd.pinned (.plain (OpenSpec.upto fnExactCodeTextSpec)) fnExactCodeTextUptoCard
end Rows
end Go.Proofs.YtkmjpebfaodfaaaDoor
