/-
  DERIVED. GIVEN WITH THE SEED: THE CARDS: each row of YtkcnadlencajaaaDoorRows.lean that lists a variable, with what it lists TIED to the program's text (the seventh form; the later family's looks); each row that meets fmt, with fmt's text TOLD by the authors' own Lean function (tested against real Go, not proved from fmt's source: count such statements apart). THE CARD IS WHAT COUNTS. Prove the row's statement (the work); the ties are given (YtkcnadlencajaaaDoorTie.lean); close each card by the builder's one call (the guide's Derived/Test/ToyasCard.lean, 'card_holds'). Laid BY PROGRAM, IN A SANDBOX (cutbox-door.mjs). By AI agents, Wed Nov 11 2026. No macro, syntax, notation, axiom, sorry.
-/
import Derived.Test.YtkcnadlencajaaaDoorRows
import GoSem.ClaimSeven
namespace Go.Proofs.YtkcnadlencajaaaDoor
namespace Rows

/-- THE TIED CARD OF 'laws.FnExactMulByHalves'. -/
def fnExactMulByHalvesCard : Claim7 := { stood := { row := fnExactMulByHalvesRow, standIns := [], harness := (true, "9c26c4ef1c2bb278da80695606f6b2a157a6f0700d599828ce0e4e3b492e03dc"), looks := true }, kinds := [], alts := [], laidByText := true, laidKinds := [.data, .data, .data], laidTests := true, laidLooks := .later }
def FnExactMulByHalvesCardSaid : Prop := Claim7.holds Tryd.pinned (.plain (OpenSpec.ofChange fnExactMulByHalvesSpec)) fnExactMulByHalvesCard

/-- THE TIED CARD OF 'laws.FnExactBezoutNat'. -/
def fnExactBezoutNatCard : Claim7 := { stood := { row := fnExactBezoutNatRow, standIns := [], harness := (true, "9c26c4ef1c2bb278da80695606f6b2a157a6f0700d599828ce0e4e3b492e03dc"), looks := true }, kinds := [], alts := [], laidByText := true, laidKinds := [.data, .data, .data], laidTests := true, laidLooks := .later }
def FnExactBezoutNatCardSaid : Prop := Claim7.holds Tryd.pinned (.plain (OpenSpec.ofChange fnExactBezoutNatSpec)) fnExactBezoutNatCard

/-- THE TIED CARD OF 'laws.FnExactPowModNat'. -/
def fnExactPowModNatCard : Claim7 := { stood := { row := fnExactPowModNatRow, standIns := [], harness := (true, "9c26c4ef1c2bb278da80695606f6b2a157a6f0700d599828ce0e4e3b492e03dc"), looks := true }, kinds := [], alts := [], laidByText := true, laidKinds := [.data, .data, .data], laidTests := true, laidLooks := .later }
def FnExactPowModNatCardSaid : Prop := Claim7.holds Tryd.pinned (.plain (OpenSpec.ofChange fnExactPowModNatSpec)) fnExactPowModNatCard

/-- THE TIED CARD OF 'laws.FnExactSqrtNat'. -/
def fnExactSqrtNatCard : Claim7 := { stood := { row := fnExactSqrtNatRow, standIns := [], harness := (true, "9c26c4ef1c2bb278da80695606f6b2a157a6f0700d599828ce0e4e3b492e03dc"), looks := true }, kinds := [], alts := [], laidByText := true, laidKinds := [.data, .data, .data], laidTests := true, laidLooks := .later }
def FnExactSqrtNatCardSaid : Prop := Claim7.holds Tryd.pinned (.plain (OpenSpec.ofChange fnExactSqrtNatSpec)) fnExactSqrtNatCard

/-- THE TIED CARD OF 'laws.FnExactChineseNat'. -/
def fnExactChineseNatCard : Claim7 := { stood := { row := fnExactChineseNatRow, standIns := [], harness := (true, "9c26c4ef1c2bb278da80695606f6b2a157a6f0700d599828ce0e4e3b492e03dc"), looks := true }, kinds := [], alts := [], laidByText := true, laidKinds := [.data, .data, .data], laidTests := true, laidLooks := .later }
def FnExactChineseNatCardSaid : Prop := Claim7.holds Tryd.pinned (.plain (OpenSpec.ofChange fnExactChineseNatSpec)) fnExactChineseNatCard

/-- THE TIED CARD OF 'laws.FnExactTermsOf'. -/
def fnExactTermsOfCard : Claim7 := { stood := { row := fnExactTermsOfRow, standIns := [], harness := (true, "9c26c4ef1c2bb278da80695606f6b2a157a6f0700d599828ce0e4e3b492e03dc"), looks := true }, kinds := [], alts := [], laidByText := true, laidKinds := [.data, .data, .data], laidTests := true, laidLooks := .later }
def FnExactTermsOfCardSaid : Prop := Claim7.holds Tryd.pinned (.plain (OpenSpec.ofChange fnExactTermsOfSpec)) fnExactTermsOfCard

/-- THE TIED CARD OF 'laws.FnExactFactorNat'. -/
def fnExactFactorNatCard : Claim7 := { stood := { row := fnExactFactorNatRow, standIns := [], harness := (true, "9c26c4ef1c2bb278da80695606f6b2a157a6f0700d599828ce0e4e3b492e03dc"), looks := true }, kinds := [], alts := [], laidByText := true, laidKinds := [.data, .data, .data, .sentinel, .sentinel], laidTests := true, laidLooks := .later }
def FnExactFactorNatCardSaid : Prop := Claim7.holds Tryd.pinned (.plain (OpenSpec.ofChange fnExactFactorNatSpec)) fnExactFactorNatCard

/-- THE TIED CARD OF 'laws.FnHalves'. -/
def fnHalvesCard : Claim7 := { stood := { row := fnHalvesRow, standIns := [], harness := (true, "9c26c4ef1c2bb278da80695606f6b2a157a6f0700d599828ce0e4e3b492e03dc"), looks := true }, kinds := [], alts := [], laidByText := true, laidKinds := [.data, .data, .data], laidTests := true, laidLooks := .later }
def FnHalvesCardSaid : Prop := Claim7.holds Tryd.pinned (.plain (OpenSpec.ofChange fnHalvesSpec)) fnHalvesCard

/-- THE TIED CARD OF 'laws.FnFermat'. -/
def fnFermatCard : Claim7 := { stood := { row := fnFermatRow, standIns := [], harness := (true, "9c26c4ef1c2bb278da80695606f6b2a157a6f0700d599828ce0e4e3b492e03dc"), looks := true }, kinds := [], alts := [], laidByText := true, laidKinds := [.data, .data, .data], laidTests := true, laidLooks := .later }
def FnFermatCardSaid : Prop := Claim7.holds Tryd.pinned (.plain (OpenSpec.ofChange fnFermatSpec)) fnFermatCard

/-- THE SECOND FORM's CARD OF 'laws.FnExactMulByHalves'. -/
def fnExactMulByHalvesUptoCard : Claim7 := { stood := { row := fnExactMulByHalvesUptoRow, standIns := [], harness := (true, "9c26c4ef1c2bb278da80695606f6b2a157a6f0700d599828ce0e4e3b492e03dc"), looks := true }, kinds := [], alts := [], laidByText := true, laidKinds := [.data, .data, .data], laidTests := true, laidLooks := .later }
def FnExactMulByHalvesUptoCardSaid : Prop := Claim7.holds Tryd.pinned (.plain (OpenSpec.upto fnExactMulByHalvesSpec)) fnExactMulByHalvesUptoCard

/-- THE SECOND FORM's CARD OF 'laws.FnExactBezoutNat'. -/
def fnExactBezoutNatUptoCard : Claim7 := { stood := { row := fnExactBezoutNatUptoRow, standIns := [], harness := (true, "9c26c4ef1c2bb278da80695606f6b2a157a6f0700d599828ce0e4e3b492e03dc"), looks := true }, kinds := [], alts := [], laidByText := true, laidKinds := [.data, .data, .data], laidTests := true, laidLooks := .later }
def FnExactBezoutNatUptoCardSaid : Prop := Claim7.holds Tryd.pinned (.plain (OpenSpec.upto fnExactBezoutNatSpec)) fnExactBezoutNatUptoCard

/-- THE SECOND FORM's CARD OF 'laws.FnExactPowModNat'. -/
def fnExactPowModNatUptoCard : Claim7 := { stood := { row := fnExactPowModNatUptoRow, standIns := [], harness := (true, "9c26c4ef1c2bb278da80695606f6b2a157a6f0700d599828ce0e4e3b492e03dc"), looks := true }, kinds := [], alts := [], laidByText := true, laidKinds := [.data, .data, .data], laidTests := true, laidLooks := .later }
def FnExactPowModNatUptoCardSaid : Prop := Claim7.holds Tryd.pinned (.plain (OpenSpec.upto fnExactPowModNatSpec)) fnExactPowModNatUptoCard

/-- THE SECOND FORM's CARD OF 'laws.FnExactSqrtNat'. -/
def fnExactSqrtNatUptoCard : Claim7 := { stood := { row := fnExactSqrtNatUptoRow, standIns := [], harness := (true, "9c26c4ef1c2bb278da80695606f6b2a157a6f0700d599828ce0e4e3b492e03dc"), looks := true }, kinds := [], alts := [], laidByText := true, laidKinds := [.data, .data, .data], laidTests := true, laidLooks := .later }
def FnExactSqrtNatUptoCardSaid : Prop := Claim7.holds Tryd.pinned (.plain (OpenSpec.upto fnExactSqrtNatSpec)) fnExactSqrtNatUptoCard

/-- THE SECOND FORM's CARD OF 'laws.FnExactChineseNat'. -/
def fnExactChineseNatUptoCard : Claim7 := { stood := { row := fnExactChineseNatUptoRow, standIns := [], harness := (true, "9c26c4ef1c2bb278da80695606f6b2a157a6f0700d599828ce0e4e3b492e03dc"), looks := true }, kinds := [], alts := [], laidByText := true, laidKinds := [.data, .data, .data], laidTests := true, laidLooks := .later }
def FnExactChineseNatUptoCardSaid : Prop := Claim7.holds Tryd.pinned (.plain (OpenSpec.upto fnExactChineseNatSpec)) fnExactChineseNatUptoCard

/-- THE SECOND FORM's CARD OF 'laws.FnExactTermsOf'. -/
def fnExactTermsOfUptoCard : Claim7 := { stood := { row := fnExactTermsOfUptoRow, standIns := [], harness := (true, "9c26c4ef1c2bb278da80695606f6b2a157a6f0700d599828ce0e4e3b492e03dc"), looks := true }, kinds := [], alts := [], laidByText := true, laidKinds := [.data, .data, .data], laidTests := true, laidLooks := .later }
def FnExactTermsOfUptoCardSaid : Prop := Claim7.holds Tryd.pinned (.plain (OpenSpec.upto fnExactTermsOfSpec)) fnExactTermsOfUptoCard

/-- THE SECOND FORM's CARD OF 'laws.FnExactFactorNat'. -/
def fnExactFactorNatUptoCard : Claim7 := { stood := { row := fnExactFactorNatUptoRow, standIns := [], harness := (true, "9c26c4ef1c2bb278da80695606f6b2a157a6f0700d599828ce0e4e3b492e03dc"), looks := true }, kinds := [], alts := [], laidByText := true, laidKinds := [.data, .data, .data, .sentinel, .sentinel], laidTests := true, laidLooks := .later }
def FnExactFactorNatUptoCardSaid : Prop := Claim7.holds Tryd.pinned (.plain (OpenSpec.upto fnExactFactorNatSpec)) fnExactFactorNatUptoCard

/-- THE SECOND FORM's CARD OF 'laws.FnHalves'. -/
def fnHalvesUptoCard : Claim7 := { stood := { row := fnHalvesUptoRow, standIns := [], harness := (true, "9c26c4ef1c2bb278da80695606f6b2a157a6f0700d599828ce0e4e3b492e03dc"), looks := true }, kinds := [], alts := [], laidByText := true, laidKinds := [.data, .data, .data], laidTests := true, laidLooks := .later }
def FnHalvesUptoCardSaid : Prop := Claim7.holds Tryd.pinned (.plain (OpenSpec.upto fnHalvesSpec)) fnHalvesUptoCard

/-- THE SECOND FORM's CARD OF 'laws.FnFermat'. -/
def fnFermatUptoCard : Claim7 := { stood := { row := fnFermatUptoRow, standIns := [], harness := (true, "9c26c4ef1c2bb278da80695606f6b2a157a6f0700d599828ce0e4e3b492e03dc"), looks := true }, kinds := [], alts := [], laidByText := true, laidKinds := [.data, .data, .data], laidTests := true, laidLooks := .later }
def FnFermatUptoCardSaid : Prop := Claim7.holds Tryd.pinned (.plain (OpenSpec.upto fnFermatSpec)) fnFermatUptoCard
end Rows
end Go.Proofs.YtkcnadlencajaaaDoor
