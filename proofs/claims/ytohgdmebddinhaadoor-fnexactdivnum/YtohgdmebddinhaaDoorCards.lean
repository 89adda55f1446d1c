/-
  DERIVED. GIVEN WITH THE SEED: THE CARDS: each row of YtohgdmebddinhaaDoorRows.lean that lists a variable, with what it lists TIED to the program's text (the seventh form; the later family's looks); each row that meets fmt, with fmt's text TOLD by the authors' own Lean function (tested against real Go, not proved from fmt's source: count such statements apart). THE CARD IS WHAT COUNTS. Prove the row's statement (the work); the ties are given (YtohgdmebddinhaaDoorTie.lean); close each card by the builder's one call (the guide's Derived/Test/ToyasCard.lean, 'card_holds'). Laid BY PROGRAM, IN A SANDBOX (cutbox-door.mjs). By AI agents, Wed Nov 11 2026. No macro, syntax, notation, axiom, sorry.
-/
import Derived.Test.YtohgdmebddinhaaDoorRows
import GoSem.ClaimSeven
namespace Go.Proofs.YtohgdmebddinhaaDoor
namespace Rows

/-- THE TIED CARD OF 'laws.FnExactAddNum'. -/
def fnExactAddNumCard : Claim7 := { stood := { row := fnExactAddNumRow, standIns := [], harness := (true, "c3de3c46292e0eaa7a181a54660f8a646b1af2b33c18119948a645c8cb524d01"), looks := false }, kinds := [], alts := [], laidByText := true, laidKinds := [.data, .data, .data], laidTests := true, laidLooks := .later }
def FnExactAddNumCardSaid : Prop := Claim7.holds Tryd.pinned (.plain (OpenSpec.ofChange fnExactAddNumSpec)) fnExactAddNumCard

/-- THE TIED CARD OF 'laws.FnExactSubNum'. -/
def fnExactSubNumCard : Claim7 := { stood := { row := fnExactSubNumRow, standIns := [], harness := (true, "c3de3c46292e0eaa7a181a54660f8a646b1af2b33c18119948a645c8cb524d01"), looks := false }, kinds := [], alts := [], laidByText := true, laidKinds := [.data, .data, .data], laidTests := true, laidLooks := .later }
def FnExactSubNumCardSaid : Prop := Claim7.holds Tryd.pinned (.plain (OpenSpec.ofChange fnExactSubNumSpec)) fnExactSubNumCard

/-- THE TIED CARD OF 'laws.FnExactMulNum'. -/
def fnExactMulNumCard : Claim7 := { stood := { row := fnExactMulNumRow, standIns := [], harness := (true, "c3de3c46292e0eaa7a181a54660f8a646b1af2b33c18119948a645c8cb524d01"), looks := false }, kinds := [], alts := [], laidByText := true, laidKinds := [.data, .data, .data], laidTests := true, laidLooks := .later }
def FnExactMulNumCardSaid : Prop := Claim7.holds Tryd.pinned (.plain (OpenSpec.ofChange fnExactMulNumSpec)) fnExactMulNumCard

/-- THE TIED CARD OF 'laws.FnExactDivNum'. -/
def fnExactDivNumCard : Claim7 := { stood := { row := fnExactDivNumRow, standIns := [], harness := (true, "c3de3c46292e0eaa7a181a54660f8a646b1af2b33c18119948a645c8cb524d01"), looks := false }, kinds := [], alts := [], laidByText := true, laidKinds := [.data, .data, .data], laidTests := true, laidLooks := .later }
def FnExactDivNumCardSaid : Prop := Claim7.holds Tryd.pinned (.plain (OpenSpec.ofChange fnExactDivNumSpec)) fnExactDivNumCard

/-- THE TIED CARD OF 'laws.FnExactQuotientNum'. -/
def fnExactQuotientNumCard : Claim7 := { stood := { row := fnExactQuotientNumRow, standIns := [], harness := (true, "c3de3c46292e0eaa7a181a54660f8a646b1af2b33c18119948a645c8cb524d01"), looks := false }, kinds := [], alts := [], laidByText := true, laidKinds := [.data, .data, .data], laidTests := true, laidLooks := .later }
def FnExactQuotientNumCardSaid : Prop := Claim7.holds Tryd.pinned (.plain (OpenSpec.ofChange fnExactQuotientNumSpec)) fnExactQuotientNumCard

/-- THE SECOND FORM's CARD OF 'laws.FnExactAddNum'. -/
def fnExactAddNumUptoCard : Claim7 := { stood := { row := fnExactAddNumUptoRow, standIns := [], harness := (true, "c3de3c46292e0eaa7a181a54660f8a646b1af2b33c18119948a645c8cb524d01"), looks := false }, kinds := [], alts := [], laidByText := true, laidKinds := [.data, .data, .data], laidTests := true, laidLooks := .later }
def FnExactAddNumUptoCardSaid : Prop := Claim7.holds Tryd.pinned (.plain (OpenSpec.upto fnExactAddNumSpec)) fnExactAddNumUptoCard

/-- THE SECOND FORM's CARD OF 'laws.FnExactSubNum'. -/
def fnExactSubNumUptoCard : Claim7 := { stood := { row := fnExactSubNumUptoRow, standIns := [], harness := (true, "c3de3c46292e0eaa7a181a54660f8a646b1af2b33c18119948a645c8cb524d01"), looks := false }, kinds := [], alts := [], laidByText := true, laidKinds := [.data, .data, .data], laidTests := true, laidLooks := .later }
def FnExactSubNumUptoCardSaid : Prop := Claim7.holds Tryd.pinned (.plain (OpenSpec.upto fnExactSubNumSpec)) fnExactSubNumUptoCard

/-- THE SECOND FORM's CARD OF 'laws.FnExactMulNum'. -/
def fnExactMulNumUptoCard : Claim7 := { stood := { row := fnExactMulNumUptoRow, standIns := [], harness := (true, "c3de3c46292e0eaa7a181a54660f8a646b1af2b33c18119948a645c8cb524d01"), looks := false }, kinds := [], alts := [], laidByText := true, laidKinds := [.data, .data, .data], laidTests := true, laidLooks := .later }
def FnExactMulNumUptoCardSaid : Prop := Claim7.holds Tryd.pinned (.plain (OpenSpec.upto fnExactMulNumSpec)) fnExactMulNumUptoCard

/-- THE SECOND FORM's CARD OF 'laws.FnExactDivNum'. -/
def fnExactDivNumUptoCard : Claim7 := { stood := { row := fnExactDivNumUptoRow, standIns := [], harness := (true, "c3de3c46292e0eaa7a181a54660f8a646b1af2b33c18119948a645c8cb524d01"), looks := false }, kinds := [], alts := [], laidByText := true, laidKinds := [.data, .data, .data], laidTests := true, laidLooks := .later }
def FnExactDivNumUptoCardSaid : Prop := Claim7.holds Tryd.pinned (.plain (OpenSpec.upto fnExactDivNumSpec)) fnExactDivNumUptoCard

/-- THE SECOND FORM's CARD OF 'laws.FnExactQuotientNum'. -/
def fnExactQuotientNumUptoCard : Claim7 := { stood := { row := fnExactQuotientNumUptoRow, standIns := [], harness := (true, "c3de3c46292e0eaa7a181a54660f8a646b1af2b33c18119948a645c8cb524d01"), looks := false }, kinds := [], alts := [], laidByText := true, laidKinds := [.data, .data, .data], laidTests := true, laidLooks := .later }
def FnExactQuotientNumUptoCardSaid : Prop := Claim7.holds Tryd.pinned (.plain (OpenSpec.upto fnExactQuotientNumSpec)) fnExactQuotientNumUptoCard
end Rows
end Go.Proofs.YtohgdmebddinhaaDoor
