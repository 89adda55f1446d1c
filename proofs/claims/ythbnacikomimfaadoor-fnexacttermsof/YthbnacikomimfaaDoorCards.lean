/-
  DERIVED. GIVEN WITH THE SEED: THE CARDS: each row of YthbnacikomimfaaDoorRows.lean that lists a variable, with what it lists TIED to the program's text (the seventh form; the later family's looks); each row that meets fmt, with fmt's text TOLD by the authors' own Lean function (tested against real Go, not proved from fmt's source: count such statements apart). THE CARD IS WHAT COUNTS. Prove the row's statement (the work); the ties are given (YthbnacikomimfaaDoorTie.lean); close each card by the builder's one call (the guide's Derived/Test/ToyasCard.lean, 'card_holds'). Laid BY PROGRAM, IN A SANDBOX (cutbox-door.mjs). By AI agents, Wed Nov 11 2026. No macro, syntax, notation, axiom, sorry.
-/
import Derived.Test.YthbnacikomimfaaDoorRows
import GoSem.ClaimSeven
namespace Go.Proofs.YthbnacikomimfaaDoor
namespace Rows

/-- THE TIED CARD OF 'laws.FnExactMulByHalves'. -/
def fnExactMulByHalvesCard : Claim7 := { stood := { row := fnExactMulByHalvesRow, standIns := [], harness := (true, "20ba032fa0872604bf81baeb5f1b23424b5f1c9afcb0a7215b0f51e2e75d27f7"), looks := false }, kinds := [], alts := [], laidByText := true, laidKinds := [.data, .data, .data], laidTests := true, laidLooks := .later }
def FnExactMulByHalvesCardSaid : Prop := Claim7.holds Tryd.pinned (.plain (OpenSpec.ofChange fnExactMulByHalvesSpec)) fnExactMulByHalvesCard

/-- THE TIED CARD OF 'laws.FnExactChineseNat'. -/
def fnExactChineseNatCard : Claim7 := { stood := { row := fnExactChineseNatRow, standIns := [], harness := (true, "20ba032fa0872604bf81baeb5f1b23424b5f1c9afcb0a7215b0f51e2e75d27f7"), looks := false }, kinds := [], alts := [], laidByText := true, laidKinds := [.data, .data, .data], laidTests := true, laidLooks := .later }
def FnExactChineseNatCardSaid : Prop := Claim7.holds Tryd.pinned (.plain (OpenSpec.ofChange fnExactChineseNatSpec)) fnExactChineseNatCard

/-- THE TIED CARD OF 'laws.FnExactTermsOf'. -/
def fnExactTermsOfCard : Claim7 := { stood := { row := fnExactTermsOfRow, standIns := [], harness := (true, "20ba032fa0872604bf81baeb5f1b23424b5f1c9afcb0a7215b0f51e2e75d27f7"), looks := false }, kinds := [], alts := [], laidByText := true, laidKinds := [.data, .data, .data], laidTests := true, laidLooks := .later }
def FnExactTermsOfCardSaid : Prop := Claim7.holds Tryd.pinned (.plain (OpenSpec.ofChange fnExactTermsOfSpec)) fnExactTermsOfCard

/-- THE SECOND FORM's CARD OF 'laws.FnExactMulByHalves'. -/
def fnExactMulByHalvesUptoCard : Claim7 := { stood := { row := fnExactMulByHalvesUptoRow, standIns := [], harness := (true, "20ba032fa0872604bf81baeb5f1b23424b5f1c9afcb0a7215b0f51e2e75d27f7"), looks := false }, kinds := [], alts := [], laidByText := true, laidKinds := [.data, .data, .data], laidTests := true, laidLooks := .later }
def FnExactMulByHalvesUptoCardSaid : Prop := Claim7.holds Tryd.pinned (.plain (OpenSpec.upto fnExactMulByHalvesSpec)) fnExactMulByHalvesUptoCard

/-- THE SECOND FORM's CARD OF 'laws.FnExactChineseNat'. -/
def fnExactChineseNatUptoCard : Claim7 := { stood := { row := fnExactChineseNatUptoRow, standIns := [], harness := (true, "20ba032fa0872604bf81baeb5f1b23424b5f1c9afcb0a7215b0f51e2e75d27f7"), looks := false }, kinds := [], alts := [], laidByText := true, laidKinds := [.data, .data, .data], laidTests := true, laidLooks := .later }
def FnExactChineseNatUptoCardSaid : Prop := Claim7.holds Tryd.pinned (.plain (OpenSpec.upto fnExactChineseNatSpec)) fnExactChineseNatUptoCard

/-- THE SECOND FORM's CARD OF 'laws.FnExactTermsOf'. -/
def fnExactTermsOfUptoCard : Claim7 := { stood := { row := fnExactTermsOfUptoRow, standIns := [], harness := (true, "20ba032fa0872604bf81baeb5f1b23424b5f1c9afcb0a7215b0f51e2e75d27f7"), looks := false }, kinds := [], alts := [], laidByText := true, laidKinds := [.data, .data, .data], laidTests := true, laidLooks := .later }
def FnExactTermsOfUptoCardSaid : Prop := Claim7.holds Tryd.pinned (.plain (OpenSpec.upto fnExactTermsOfSpec)) fnExactTermsOfUptoCard
end Rows
end Go.Proofs.YthbnacikomimfaaDoor
