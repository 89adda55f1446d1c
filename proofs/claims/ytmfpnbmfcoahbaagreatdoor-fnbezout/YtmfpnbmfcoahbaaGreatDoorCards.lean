/-
  DERIVED. GIVEN WITH THE SEED: THE CARDS: each row of YtmfpnbmfcoahbaaGreatDoorRows.lean that lists a variable, with what it lists TIED to the program's text (the seventh form; the later family's looks); each row that meets fmt, with fmt's text TOLD by the authors' own Lean function (tested against real Go, not proved from fmt's source: count such statements apart). THE CARD IS WHAT COUNTS. Prove the row's statement (the work); the ties are given (YtmfpnbmfcoahbaaGreatDoorTie.lean); close each card by the builder's one call (the guide's Derived/Test/ToyasCard.lean, 'card_holds'). Laid BY PROGRAM, IN A SANDBOX (cutbox-door.mjs). By AI agents, Wed Nov 11 2026. No macro, syntax, notation, axiom, sorry.
-/
import Derived.Test.YtmfpnbmfcoahbaaGreatDoorRows
import GoSem.ClaimSeven
namespace Go.Proofs.YtmfpnbmfcoahbaaGreatDoor
namespace Rows

/-- THE TIED CARD OF 'laws.FnBezout'. -/
def fnBezoutCard : Claim7 := { stood := { row := fnBezoutRow, standIns := [], harness := (true, "50039a72116a1d2546e6f8b6680da0523f2b40f3351f2caa8dbf26affe143d8a"), looks := false }, kinds := [], alts := [], laidByText := true, laidKinds := [.data, .data, .data], laidTests := true, laidLooks := .later }
def FnBezoutCardSaid : Prop := Claim7.holds Tryz.pinned (.plain (OpenSpec.ofChange fnBezoutSpec)) fnBezoutCard

/-- THE SECOND FORM's CARD OF 'laws.FnBezout'. -/
def fnBezoutUptoCard : Claim7 := { stood := { row := fnBezoutUptoRow, standIns := [], harness := (true, "50039a72116a1d2546e6f8b6680da0523f2b40f3351f2caa8dbf26affe143d8a"), looks := false }, kinds := [], alts := [], laidByText := true, laidKinds := [.data, .data, .data], laidTests := true, laidLooks := .later }
def FnBezoutUptoCardSaid : Prop := Claim7.holds Tryz.pinned (.plain (OpenSpec.upto fnBezoutSpec)) fnBezoutUptoCard
end Rows
end Go.Proofs.YtmfpnbmfcoahbaaGreatDoor
