/-
  DERIVED. GIVEN WITH THE SEED: THE CARDS: each row of YtjgpjafndaikcaaGreatDoorRows.lean that lists a variable, with what it lists TIED to the program's text (the seventh form; the later family's looks); each row that meets fmt, with fmt's text TOLD by the authors' own Lean function (tested against real Go, not proved from fmt's source: count such statements apart). THE CARD IS WHAT COUNTS. Prove the row's statement (the work); the ties are given (YtjgpjafndaikcaaGreatDoorTie.lean); close each card by the builder's one call (the guide's Derived/Test/ToyasCard.lean, 'card_holds'). Laid BY PROGRAM, IN A SANDBOX (cutbox-door.mjs). By AI agents, Wed Nov 11 2026. No macro, syntax, notation, axiom, sorry.
-/
import Derived.Test.YtjgpjafndaikcaaGreatDoorRows
import GoSem.ClaimSeven
namespace Go.Proofs.YtjgpjafndaikcaaGreatDoor
namespace Rows

/-- THE TIED CARD OF 'laws.FnExactGoodData'. -/
def fnExactGoodDataCard : Claim7 := { stood := { row := fnExactGoodDataRow, standIns := [], harness := (true, "0819c53dcccd50fcfdaf0647304becd4f86add944f00ef264bbc601a53e6c7a9"), looks := true }, kinds := [], alts := [], laidByText := true, laidKinds := [.data, .data, .data], laidTests := true, laidLooks := .later }
def FnExactGoodDataCardSaid : Prop := Claim7.holds Tryz.pinned (.plain (OpenSpec.ofChange fnExactGoodDataSpec)) fnExactGoodDataCard

/-- THE TIED CARD OF 'laws.FnExactDataText'. -/
def fnExactDataTextCard : Claim7 := { stood := { row := fnExactDataTextRow, standIns := [], harness := (true, "0819c53dcccd50fcfdaf0647304becd4f86add944f00ef264bbc601a53e6c7a9"), looks := true }, kinds := [], alts := [], laidByText := true, laidKinds := [.data, .data, .data], laidTests := true, laidLooks := .later }
def FnExactDataTextCardSaid : Prop := Claim7.holds Tryz.pinned (.plain (OpenSpec.ofChange fnExactDataTextSpec)) fnExactDataTextCard

/-- THE TIED CARD OF 'laws.FnExactSameData'. -/
def fnExactSameDataCard : Claim7 := { stood := { row := fnExactSameDataRow, standIns := [], harness := (true, "0819c53dcccd50fcfdaf0647304becd4f86add944f00ef264bbc601a53e6c7a9"), looks := true }, kinds := [], alts := [], laidByText := true, laidKinds := [.data, .data, .data], laidTests := true, laidLooks := .later }
def FnExactSameDataCardSaid : Prop := Claim7.holds Tryz.pinned (.plain (OpenSpec.ofChange fnExactSameDataSpec)) fnExactSameDataCard

/-- THE TIED CARD OF 'laws.FnExactIsPrimitive'. -/
def fnExactIsPrimitiveCard : Claim7 := { stood := { row := fnExactIsPrimitiveRow, standIns := [], harness := (true, "0819c53dcccd50fcfdaf0647304becd4f86add944f00ef264bbc601a53e6c7a9"), looks := true }, kinds := [], alts := [], laidByText := true, laidKinds := [.data, .data, .data], laidTests := true, laidLooks := .later }
def FnExactIsPrimitiveCardSaid : Prop := Claim7.holds Tryz.pinned (.plain (OpenSpec.ofChange fnExactIsPrimitiveSpec)) fnExactIsPrimitiveCard

/-- THE SECOND FORM's CARD OF 'laws.FnExactGoodData'. -/
def fnExactGoodDataUptoCard : Claim7 := { stood := { row := fnExactGoodDataUptoRow, standIns := [], harness := (true, "0819c53dcccd50fcfdaf0647304becd4f86add944f00ef264bbc601a53e6c7a9"), looks := true }, kinds := [], alts := [], laidByText := true, laidKinds := [.data, .data, .data], laidTests := true, laidLooks := .later }
def FnExactGoodDataUptoCardSaid : Prop := Claim7.holds Tryz.pinned (.plain (OpenSpec.upto fnExactGoodDataSpec)) fnExactGoodDataUptoCard

/-- THE SECOND FORM's CARD OF 'laws.FnExactDataText'. -/
def fnExactDataTextUptoCard : Claim7 := { stood := { row := fnExactDataTextUptoRow, standIns := [], harness := (true, "0819c53dcccd50fcfdaf0647304becd4f86add944f00ef264bbc601a53e6c7a9"), looks := true }, kinds := [], alts := [], laidByText := true, laidKinds := [.data, .data, .data], laidTests := true, laidLooks := .later }
def FnExactDataTextUptoCardSaid : Prop := Claim7.holds Tryz.pinned (.plain (OpenSpec.upto fnExactDataTextSpec)) fnExactDataTextUptoCard

/-- THE SECOND FORM's CARD OF 'laws.FnExactSameData'. -/
def fnExactSameDataUptoCard : Claim7 := { stood := { row := fnExactSameDataUptoRow, standIns := [], harness := (true, "0819c53dcccd50fcfdaf0647304becd4f86add944f00ef264bbc601a53e6c7a9"), looks := true }, kinds := [], alts := [], laidByText := true, laidKinds := [.data, .data, .data], laidTests := true, laidLooks := .later }
def FnExactSameDataUptoCardSaid : Prop := Claim7.holds Tryz.pinned (.plain (OpenSpec.upto fnExactSameDataSpec)) fnExactSameDataUptoCard

/-- THE SECOND FORM's CARD OF 'laws.FnExactIsPrimitive'. -/
def fnExactIsPrimitiveUptoCard : Claim7 := { stood := { row := fnExactIsPrimitiveUptoRow, standIns := [], harness := (true, "0819c53dcccd50fcfdaf0647304becd4f86add944f00ef264bbc601a53e6c7a9"), looks := true }, kinds := [], alts := [], laidByText := true, laidKinds := [.data, .data, .data], laidTests := true, laidLooks := .later }
def FnExactIsPrimitiveUptoCardSaid : Prop := Claim7.holds Tryz.pinned (.plain (OpenSpec.upto fnExactIsPrimitiveSpec)) fnExactIsPrimitiveUptoCard
end Rows
end Go.Proofs.YtjgpjafndaikcaaGreatDoor
