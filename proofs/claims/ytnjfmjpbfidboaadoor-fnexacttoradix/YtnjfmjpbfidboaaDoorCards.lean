/-
  DERIVED. GIVEN WITH THE SEED: THE CARDS: each row of YtnjfmjpbfidboaaDoorRows.lean that lists a variable, with what it lists TIED to the program's text (the seventh form; the later family's looks); each row that meets fmt, with fmt's text TOLD by the authors' own Lean function (tested against real Go, not proved from fmt's source: count such statements apart). THE CARD IS WHAT COUNTS. Prove the row's statement (the work); the ties are given (YtnjfmjpbfidboaaDoorTie.lean); close each card by the builder's one call (the guide's Derived/Test/ToyasCard.lean, 'card_holds'). Laid BY PROGRAM, IN A SANDBOX (cutbox-door.mjs). By AI agents, Wed Nov 11 2026. No macro, syntax, notation, axiom, sorry.
-/
import Derived.Test.YtnjfmjpbfidboaaDoorRows
import GoSem.ClaimSeven
namespace Go.Proofs.YtnjfmjpbfidboaaDoor
namespace Rows

/-- THE TIED CARD OF 'laws.FnExactAddNat'. -/
def fnExactAddNatCard : Claim7 := { stood := { row := fnExactAddNatRow, standIns := [], harness := (true, "90a9e4a09ff096ef62731ba336007754eb1d65552966f4b627e154c08a723797"), looks := false }, kinds := [], alts := [], laidByText := true, laidKinds := [.data, .data, .data], laidTests := true, laidLooks := .later }
def FnExactAddNatCardSaid : Prop := Claim7.holds Tryd.pinned (.plain (OpenSpec.ofChange fnExactAddNatSpec)) fnExactAddNatCard

/-- THE TIED CARD OF 'laws.FnExactSubNat'. -/
def fnExactSubNatCard : Claim7 := { stood := { row := fnExactSubNatRow, standIns := [], harness := (true, "90a9e4a09ff096ef62731ba336007754eb1d65552966f4b627e154c08a723797"), looks := false }, kinds := [], alts := [], laidByText := true, laidKinds := [.data, .data, .data], laidTests := true, laidLooks := .later }
def FnExactSubNatCardSaid : Prop := Claim7.holds Tryd.pinned (.plain (OpenSpec.ofChange fnExactSubNatSpec)) fnExactSubNatCard

/-- THE TIED CARD OF 'laws.FnExactMulNat'. -/
def fnExactMulNatCard : Claim7 := { stood := { row := fnExactMulNatRow, standIns := [], harness := (true, "90a9e4a09ff096ef62731ba336007754eb1d65552966f4b627e154c08a723797"), looks := false }, kinds := [], alts := [], laidByText := true, laidKinds := [.data, .data, .data], laidTests := true, laidLooks := .later }
def FnExactMulNatCardSaid : Prop := Claim7.holds Tryd.pinned (.plain (OpenSpec.ofChange fnExactMulNatSpec)) fnExactMulNatCard

/-- THE TIED CARD OF 'laws.FnExactDivNat'. -/
def fnExactDivNatCard : Claim7 := { stood := { row := fnExactDivNatRow, standIns := [], harness := (true, "90a9e4a09ff096ef62731ba336007754eb1d65552966f4b627e154c08a723797"), looks := false }, kinds := [], alts := [], laidByText := true, laidKinds := [.data, .data, .data], laidTests := true, laidLooks := .later }
def FnExactDivNatCardSaid : Prop := Claim7.holds Tryd.pinned (.plain (OpenSpec.ofChange fnExactDivNatSpec)) fnExactDivNatCard

/-- THE TIED CARD OF 'laws.FnExactGcdNat'. -/
def fnExactGcdNatCard : Claim7 := { stood := { row := fnExactGcdNatRow, standIns := [], harness := (true, "90a9e4a09ff096ef62731ba336007754eb1d65552966f4b627e154c08a723797"), looks := false }, kinds := [], alts := [], laidByText := true, laidKinds := [.data, .data, .data], laidTests := true, laidLooks := .later }
def FnExactGcdNatCardSaid : Prop := Claim7.holds Tryd.pinned (.plain (OpenSpec.ofChange fnExactGcdNatSpec)) fnExactGcdNatCard

/-- THE TIED CARD OF 'laws.FnExactPowNat'. -/
def fnExactPowNatCard : Claim7 := { stood := { row := fnExactPowNatRow, standIns := [], harness := (true, "90a9e4a09ff096ef62731ba336007754eb1d65552966f4b627e154c08a723797"), looks := false }, kinds := [], alts := [], laidByText := true, laidKinds := [.data, .data, .data], laidTests := true, laidLooks := .later }
def FnExactPowNatCardSaid : Prop := Claim7.holds Tryd.pinned (.plain (OpenSpec.ofChange fnExactPowNatSpec)) fnExactPowNatCard

/-- THE TIED CARD OF 'laws.FnExactToRadix'. -/
def fnExactToRadixCard : Claim7 := { stood := { row := fnExactToRadixRow, standIns := [], harness := (true, "90a9e4a09ff096ef62731ba336007754eb1d65552966f4b627e154c08a723797"), looks := false }, kinds := [], alts := [], laidByText := true, laidKinds := [.data, .data, .data], laidTests := true, laidLooks := .later }
def FnExactToRadixCardSaid : Prop := Claim7.holds Tryd.pinned (.plain (OpenSpec.ofChange fnExactToRadixSpec)) fnExactToRadixCard

/-- THE TIED CARD OF 'laws.FnExactOfRadix'. -/
def fnExactOfRadixCard : Claim7 := { stood := { row := fnExactOfRadixRow, standIns := [], harness := (true, "90a9e4a09ff096ef62731ba336007754eb1d65552966f4b627e154c08a723797"), looks := false }, kinds := [], alts := [], laidByText := true, laidKinds := [.data, .data, .data], laidTests := true, laidLooks := .later }
def FnExactOfRadixCardSaid : Prop := Claim7.holds Tryd.pinned (.plain (OpenSpec.ofChange fnExactOfRadixSpec)) fnExactOfRadixCard

/-- THE SECOND FORM's CARD OF 'laws.FnExactAddNat'. -/
def fnExactAddNatUptoCard : Claim7 := { stood := { row := fnExactAddNatUptoRow, standIns := [], harness := (true, "90a9e4a09ff096ef62731ba336007754eb1d65552966f4b627e154c08a723797"), looks := false }, kinds := [], alts := [], laidByText := true, laidKinds := [.data, .data, .data], laidTests := true, laidLooks := .later }
def FnExactAddNatUptoCardSaid : Prop := Claim7.holds Tryd.pinned (.plain (OpenSpec.upto fnExactAddNatSpec)) fnExactAddNatUptoCard

/-- THE SECOND FORM's CARD OF 'laws.FnExactSubNat'. -/
def fnExactSubNatUptoCard : Claim7 := { stood := { row := fnExactSubNatUptoRow, standIns := [], harness := (true, "90a9e4a09ff096ef62731ba336007754eb1d65552966f4b627e154c08a723797"), looks := false }, kinds := [], alts := [], laidByText := true, laidKinds := [.data, .data, .data], laidTests := true, laidLooks := .later }
def FnExactSubNatUptoCardSaid : Prop := Claim7.holds Tryd.pinned (.plain (OpenSpec.upto fnExactSubNatSpec)) fnExactSubNatUptoCard

/-- THE SECOND FORM's CARD OF 'laws.FnExactMulNat'. -/
def fnExactMulNatUptoCard : Claim7 := { stood := { row := fnExactMulNatUptoRow, standIns := [], harness := (true, "90a9e4a09ff096ef62731ba336007754eb1d65552966f4b627e154c08a723797"), looks := false }, kinds := [], alts := [], laidByText := true, laidKinds := [.data, .data, .data], laidTests := true, laidLooks := .later }
def FnExactMulNatUptoCardSaid : Prop := Claim7.holds Tryd.pinned (.plain (OpenSpec.upto fnExactMulNatSpec)) fnExactMulNatUptoCard

/-- THE SECOND FORM's CARD OF 'laws.FnExactDivNat'. -/
def fnExactDivNatUptoCard : Claim7 := { stood := { row := fnExactDivNatUptoRow, standIns := [], harness := (true, "90a9e4a09ff096ef62731ba336007754eb1d65552966f4b627e154c08a723797"), looks := false }, kinds := [], alts := [], laidByText := true, laidKinds := [.data, .data, .data], laidTests := true, laidLooks := .later }
def FnExactDivNatUptoCardSaid : Prop := Claim7.holds Tryd.pinned (.plain (OpenSpec.upto fnExactDivNatSpec)) fnExactDivNatUptoCard

/-- THE SECOND FORM's CARD OF 'laws.FnExactGcdNat'. -/
def fnExactGcdNatUptoCard : Claim7 := { stood := { row := fnExactGcdNatUptoRow, standIns := [], harness := (true, "90a9e4a09ff096ef62731ba336007754eb1d65552966f4b627e154c08a723797"), looks := false }, kinds := [], alts := [], laidByText := true, laidKinds := [.data, .data, .data], laidTests := true, laidLooks := .later }
def FnExactGcdNatUptoCardSaid : Prop := Claim7.holds Tryd.pinned (.plain (OpenSpec.upto fnExactGcdNatSpec)) fnExactGcdNatUptoCard

/-- THE SECOND FORM's CARD OF 'laws.FnExactPowNat'. -/
def fnExactPowNatUptoCard : Claim7 := { stood := { row := fnExactPowNatUptoRow, standIns := [], harness := (true, "90a9e4a09ff096ef62731ba336007754eb1d65552966f4b627e154c08a723797"), looks := false }, kinds := [], alts := [], laidByText := true, laidKinds := [.data, .data, .data], laidTests := true, laidLooks := .later }
def FnExactPowNatUptoCardSaid : Prop := Claim7.holds Tryd.pinned (.plain (OpenSpec.upto fnExactPowNatSpec)) fnExactPowNatUptoCard

/-- THE SECOND FORM's CARD OF 'laws.FnExactToRadix'. -/
def fnExactToRadixUptoCard : Claim7 := { stood := { row := fnExactToRadixUptoRow, standIns := [], harness := (true, "90a9e4a09ff096ef62731ba336007754eb1d65552966f4b627e154c08a723797"), looks := false }, kinds := [], alts := [], laidByText := true, laidKinds := [.data, .data, .data], laidTests := true, laidLooks := .later }
def FnExactToRadixUptoCardSaid : Prop := Claim7.holds Tryd.pinned (.plain (OpenSpec.upto fnExactToRadixSpec)) fnExactToRadixUptoCard

/-- THE SECOND FORM's CARD OF 'laws.FnExactOfRadix'. -/
def fnExactOfRadixUptoCard : Claim7 := { stood := { row := fnExactOfRadixUptoRow, standIns := [], harness := (true, "90a9e4a09ff096ef62731ba336007754eb1d65552966f4b627e154c08a723797"), looks := false }, kinds := [], alts := [], laidByText := true, laidKinds := [.data, .data, .data], laidTests := true, laidLooks := .later }
def FnExactOfRadixUptoCardSaid : Prop := Claim7.holds Tryd.pinned (.plain (OpenSpec.upto fnExactOfRadixSpec)) fnExactOfRadixUptoCard
end Rows
end Go.Proofs.YtnjfmjpbfidboaaDoor
