/-
  DERIVED. GIVEN WITH THE SEED: THE CARDS: each row of YteglkbgcgookhaaDoorRows.lean that lists a variable, with what it lists TIED to the program's text (the seventh form; the later family's looks); each row that meets fmt, with fmt's text TOLD by the authors' own Lean function (tested against real Go, not proved from fmt's source: count such statements apart). THE CARD IS WHAT COUNTS. Prove the row's statement (the work); the ties are given (YteglkbgcgookhaaDoorTie.lean); close each card by the builder's one call (the guide's Derived/Test/ToyasCard.lean, 'card_holds'). Laid BY PROGRAM, IN A SANDBOX (cutbox-door.mjs). By AI agents, Wed Nov 11 2026. No macro, syntax, notation, axiom, sorry.
-/
import Derived.Test.YteglkbgcgookhaaDoorRows
import GoSem.ClaimSeven
namespace Go.Proofs.YteglkbgcgookhaaDoor
namespace Rows

/-- THE TIED CARD OF 'laws.FnExactNumOfReal'. -/
def fnExactNumOfRealCard : Claim7 := { stood := { row := fnExactNumOfRealRow, standIns := [], harness := (true, "6391c0d2621343d4a45523a16d17906a363fc430b7c7c7102a5ffaec7e4b7418"), looks := false }, kinds := [], alts := [], laidByText := true, laidKinds := [.data, .data, .data], laidTests := true, laidLooks := .later }
def FnExactNumOfRealCardSaid : Prop := Claim7.holds Tryd.pinned (.plain (OpenSpec.ofChange fnExactNumOfRealSpec)) fnExactNumOfRealCard

/-- THE TIED CARD OF 'laws.FnExactMulByHalves'. -/
def fnExactMulByHalvesCard : Claim7 := { stood := { row := fnExactMulByHalvesRow, standIns := [], harness := (true, "6391c0d2621343d4a45523a16d17906a363fc430b7c7c7102a5ffaec7e4b7418"), looks := false }, kinds := [], alts := [], laidByText := true, laidKinds := [.data, .data, .data], laidTests := true, laidLooks := .later }
def FnExactMulByHalvesCardSaid : Prop := Claim7.holds Tryd.pinned (.plain (OpenSpec.ofChange fnExactMulByHalvesSpec)) fnExactMulByHalvesCard

/-- THE TIED CARD OF 'laws.FnExactChineseNat'. -/
def fnExactChineseNatCard : Claim7 := { stood := { row := fnExactChineseNatRow, standIns := [], harness := (true, "6391c0d2621343d4a45523a16d17906a363fc430b7c7c7102a5ffaec7e4b7418"), looks := false }, kinds := [], alts := [], laidByText := true, laidKinds := [.data, .data, .data], laidTests := true, laidLooks := .later }
def FnExactChineseNatCardSaid : Prop := Claim7.holds Tryd.pinned (.plain (OpenSpec.ofChange fnExactChineseNatSpec)) fnExactChineseNatCard

/-- THE TIED CARD OF 'laws.FnExactTermsOf'. -/
def fnExactTermsOfCard : Claim7 := { stood := { row := fnExactTermsOfRow, standIns := [], harness := (true, "6391c0d2621343d4a45523a16d17906a363fc430b7c7c7102a5ffaec7e4b7418"), looks := false }, kinds := [], alts := [], laidByText := true, laidKinds := [.data, .data, .data], laidTests := true, laidLooks := .later }
def FnExactTermsOfCardSaid : Prop := Claim7.holds Tryd.pinned (.plain (OpenSpec.ofChange fnExactTermsOfSpec)) fnExactTermsOfCard

/-- THE TIED CARD OF 'laws.FnHalves'. -/
def fnHalvesCard : Claim7 := { stood := { row := fnHalvesRow, standIns := [], harness := (true, "6391c0d2621343d4a45523a16d17906a363fc430b7c7c7102a5ffaec7e4b7418"), looks := false }, kinds := [], alts := [], laidByText := true, laidKinds := [.data, .data, .data], laidTests := true, laidLooks := .later }
def FnHalvesCardSaid : Prop := Claim7.holds Tryd.pinned (.plain (OpenSpec.ofChange fnHalvesSpec)) fnHalvesCard

/-- THE SECOND FORM's CARD OF 'laws.FnExactNumOfReal'. -/
def fnExactNumOfRealUptoCard : Claim7 := { stood := { row := fnExactNumOfRealUptoRow, standIns := [], harness := (true, "6391c0d2621343d4a45523a16d17906a363fc430b7c7c7102a5ffaec7e4b7418"), looks := false }, kinds := [], alts := [], laidByText := true, laidKinds := [.data, .data, .data], laidTests := true, laidLooks := .later }
def FnExactNumOfRealUptoCardSaid : Prop := Claim7.holds Tryd.pinned (.plain (OpenSpec.upto fnExactNumOfRealSpec)) fnExactNumOfRealUptoCard

/-- THE SECOND FORM's CARD OF 'laws.FnExactMulByHalves'. -/
def fnExactMulByHalvesUptoCard : Claim7 := { stood := { row := fnExactMulByHalvesUptoRow, standIns := [], harness := (true, "6391c0d2621343d4a45523a16d17906a363fc430b7c7c7102a5ffaec7e4b7418"), looks := false }, kinds := [], alts := [], laidByText := true, laidKinds := [.data, .data, .data], laidTests := true, laidLooks := .later }
def FnExactMulByHalvesUptoCardSaid : Prop := Claim7.holds Tryd.pinned (.plain (OpenSpec.upto fnExactMulByHalvesSpec)) fnExactMulByHalvesUptoCard

/-- THE SECOND FORM's CARD OF 'laws.FnExactChineseNat'. -/
def fnExactChineseNatUptoCard : Claim7 := { stood := { row := fnExactChineseNatUptoRow, standIns := [], harness := (true, "6391c0d2621343d4a45523a16d17906a363fc430b7c7c7102a5ffaec7e4b7418"), looks := false }, kinds := [], alts := [], laidByText := true, laidKinds := [.data, .data, .data], laidTests := true, laidLooks := .later }
def FnExactChineseNatUptoCardSaid : Prop := Claim7.holds Tryd.pinned (.plain (OpenSpec.upto fnExactChineseNatSpec)) fnExactChineseNatUptoCard

/-- THE SECOND FORM's CARD OF 'laws.FnExactTermsOf'. -/
def fnExactTermsOfUptoCard : Claim7 := { stood := { row := fnExactTermsOfUptoRow, standIns := [], harness := (true, "6391c0d2621343d4a45523a16d17906a363fc430b7c7c7102a5ffaec7e4b7418"), looks := false }, kinds := [], alts := [], laidByText := true, laidKinds := [.data, .data, .data], laidTests := true, laidLooks := .later }
def FnExactTermsOfUptoCardSaid : Prop := Claim7.holds Tryd.pinned (.plain (OpenSpec.upto fnExactTermsOfSpec)) fnExactTermsOfUptoCard

/-- THE SECOND FORM's CARD OF 'laws.FnHalves'. -/
def fnHalvesUptoCard : Claim7 := { stood := { row := fnHalvesUptoRow, standIns := [], harness := (true, "6391c0d2621343d4a45523a16d17906a363fc430b7c7c7102a5ffaec7e4b7418"), looks := false }, kinds := [], alts := [], laidByText := true, laidKinds := [.data, .data, .data], laidTests := true, laidLooks := .later }
def FnHalvesUptoCardSaid : Prop := Claim7.holds Tryd.pinned (.plain (OpenSpec.upto fnHalvesSpec)) fnHalvesUptoCard
end Rows
end Go.Proofs.YteglkbgcgookhaaDoor
