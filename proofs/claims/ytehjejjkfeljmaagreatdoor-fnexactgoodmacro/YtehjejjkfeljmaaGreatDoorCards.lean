/-
  DERIVED. GIVEN WITH THE SEED: THE CARDS: each row of YtehjejjkfeljmaaGreatDoorRows.lean that lists a variable, with what it lists TIED to the program's text (the seventh form; the later family's looks); each row that meets fmt, with fmt's text TOLD by the authors' own Lean function (tested against real Go, not proved from fmt's source: count such statements apart). THE CARD IS WHAT COUNTS. Prove the row's statement (the work); the ties are given (YtehjejjkfeljmaaGreatDoorTie.lean); close each card by the builder's one call (the guide's Derived/Test/ToyasCard.lean, 'card_holds'). Laid BY PROGRAM, IN A SANDBOX (cutbox-door.mjs). By AI agents, Wed Nov 11 2026. No macro, syntax, notation, axiom, sorry.
-/
import Derived.Test.YtehjejjkfeljmaaGreatDoorRows
import GoSem.ClaimSeven
namespace Go.Proofs.YtehjejjkfeljmaaGreatDoor
namespace Rows

/-- THE TIED CARD OF 'laws.FnRows'. -/
def fnRowsCard : Claim7 := { stood := { row := fnRowsRow, standIns := [], harness := (true, "29dd5ab68220854ae29fed78765dca498e9df30e6dcc785a738efb1d0d8f8392"), looks := false }, kinds := [], alts := [], laidByText := true, laidKinds := [.data, .data, .data], laidTests := true, laidLooks := .later }
def FnRowsCardSaid : Prop := Claim7.holds Tryz.pinned (.plain (OpenSpec.ofChange fnRowsSpec)) fnRowsCard

/-- THE TIED CARD OF 'laws.FnExactGoodMacro'. -/
def fnExactGoodMacroCard : Claim7 := { stood := { row := fnExactGoodMacroRow, standIns := [], harness := (true, "29dd5ab68220854ae29fed78765dca498e9df30e6dcc785a738efb1d0d8f8392"), looks := false }, kinds := [], alts := [], laidByText := true, laidKinds := [.data, .data, .data], laidTests := true, laidLooks := .later }
def FnExactGoodMacroCardSaid : Prop := Claim7.holds Tryz.pinned (.plain (OpenSpec.ofChange fnExactGoodMacroSpec)) fnExactGoodMacroCard

/-- THE TIED CARD OF 'laws.FnExactApplyMacro'. -/
def fnExactApplyMacroCard : Claim7 := { stood := { row := fnExactApplyMacroRow, standIns := [], harness := (true, "29dd5ab68220854ae29fed78765dca498e9df30e6dcc785a738efb1d0d8f8392"), looks := false }, kinds := [], alts := [], laidByText := true, laidKinds := [.data, .data, .data], laidTests := true, laidLooks := .later }
def FnExactApplyMacroCardSaid : Prop := Claim7.holds Tryz.pinned (.plain (OpenSpec.ofChange fnExactApplyMacroSpec)) fnExactApplyMacroCard

/-- THE TIED CARD OF 'laws.FnExactExpandForms'. -/
def fnExactExpandFormsCard : Claim7 := { stood := { row := fnExactExpandFormsRow, standIns := [], harness := (true, "29dd5ab68220854ae29fed78765dca498e9df30e6dcc785a738efb1d0d8f8392"), looks := false }, kinds := [], alts := [], laidByText := true, laidKinds := [.data, .data, .data], laidTests := true, laidLooks := .later }
def FnExactExpandFormsCardSaid : Prop := Claim7.holds Tryz.pinned (.plain (OpenSpec.ofChange fnExactExpandFormsSpec)) fnExactExpandFormsCard

/-- THE TIED CARD OF 'laws.FnExactIsCore'. -/
def fnExactIsCoreCard : Claim7 := { stood := { row := fnExactIsCoreRow, standIns := [], harness := (true, "29dd5ab68220854ae29fed78765dca498e9df30e6dcc785a738efb1d0d8f8392"), looks := false }, kinds := [], alts := [], laidByText := true, laidKinds := [.data, .data, .data], laidTests := true, laidLooks := .later }
def FnExactIsCoreCardSaid : Prop := Claim7.holds Tryz.pinned (.plain (OpenSpec.ofChange fnExactIsCoreSpec)) fnExactIsCoreCard

/-- THE SECOND FORM's CARD OF 'laws.FnRows'. -/
def fnRowsUptoCard : Claim7 := { stood := { row := fnRowsUptoRow, standIns := [], harness := (true, "29dd5ab68220854ae29fed78765dca498e9df30e6dcc785a738efb1d0d8f8392"), looks := false }, kinds := [], alts := [], laidByText := true, laidKinds := [.data, .data, .data], laidTests := true, laidLooks := .later }
def FnRowsUptoCardSaid : Prop := Claim7.holds Tryz.pinned (.plain (OpenSpec.upto fnRowsSpec)) fnRowsUptoCard

/-- THE SECOND FORM's CARD OF 'laws.FnExactGoodMacro'. -/
def fnExactGoodMacroUptoCard : Claim7 := { stood := { row := fnExactGoodMacroUptoRow, standIns := [], harness := (true, "29dd5ab68220854ae29fed78765dca498e9df30e6dcc785a738efb1d0d8f8392"), looks := false }, kinds := [], alts := [], laidByText := true, laidKinds := [.data, .data, .data], laidTests := true, laidLooks := .later }
def FnExactGoodMacroUptoCardSaid : Prop := Claim7.holds Tryz.pinned (.plain (OpenSpec.upto fnExactGoodMacroSpec)) fnExactGoodMacroUptoCard

/-- THE SECOND FORM's CARD OF 'laws.FnExactApplyMacro'. -/
def fnExactApplyMacroUptoCard : Claim7 := { stood := { row := fnExactApplyMacroUptoRow, standIns := [], harness := (true, "29dd5ab68220854ae29fed78765dca498e9df30e6dcc785a738efb1d0d8f8392"), looks := false }, kinds := [], alts := [], laidByText := true, laidKinds := [.data, .data, .data], laidTests := true, laidLooks := .later }
def FnExactApplyMacroUptoCardSaid : Prop := Claim7.holds Tryz.pinned (.plain (OpenSpec.upto fnExactApplyMacroSpec)) fnExactApplyMacroUptoCard

/-- THE SECOND FORM's CARD OF 'laws.FnExactExpandForms'. -/
def fnExactExpandFormsUptoCard : Claim7 := { stood := { row := fnExactExpandFormsUptoRow, standIns := [], harness := (true, "29dd5ab68220854ae29fed78765dca498e9df30e6dcc785a738efb1d0d8f8392"), looks := false }, kinds := [], alts := [], laidByText := true, laidKinds := [.data, .data, .data], laidTests := true, laidLooks := .later }
def FnExactExpandFormsUptoCardSaid : Prop := Claim7.holds Tryz.pinned (.plain (OpenSpec.upto fnExactExpandFormsSpec)) fnExactExpandFormsUptoCard

/-- THE SECOND FORM's CARD OF 'laws.FnExactIsCore'. -/
def fnExactIsCoreUptoCard : Claim7 := { stood := { row := fnExactIsCoreUptoRow, standIns := [], harness := (true, "29dd5ab68220854ae29fed78765dca498e9df30e6dcc785a738efb1d0d8f8392"), looks := false }, kinds := [], alts := [], laidByText := true, laidKinds := [.data, .data, .data], laidTests := true, laidLooks := .later }
def FnExactIsCoreUptoCardSaid : Prop := Claim7.holds Tryz.pinned (.plain (OpenSpec.upto fnExactIsCoreSpec)) fnExactIsCoreUptoCard
end Rows
end Go.Proofs.YtehjejjkfeljmaaGreatDoor
