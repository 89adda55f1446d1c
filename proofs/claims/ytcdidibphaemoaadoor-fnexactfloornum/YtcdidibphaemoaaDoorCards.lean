/-
  DERIVED. GIVEN WITH THE SEED: THE CARDS: each row of YtcdidibphaemoaaDoorRows.lean that lists a variable, with what it lists TIED to the program's text (the seventh form; the later family's looks); each row that meets fmt, with fmt's text TOLD by the authors' own Lean function (tested against real Go, not proved from fmt's source: count such statements apart). THE CARD IS WHAT COUNTS. Prove the row's statement (the work); the ties are given (YtcdidibphaemoaaDoorTie.lean); close each card by the builder's one call (the guide's Derived/Test/ToyasCard.lean, 'card_holds'). Laid BY PROGRAM, IN A SANDBOX (cutbox-door.mjs). By AI agents, Wed Nov 11 2026. No macro, syntax, notation, axiom, sorry.
-/
import Derived.Test.YtcdidibphaemoaaDoorRows
import GoSem.ClaimSeven
namespace Go.Proofs.YtcdidibphaemoaaDoor
namespace Rows

/-- THE TIED CARD OF 'laws.FnExactGcdNat'. -/
def fnExactGcdNatCard : Claim7 := { stood := { row := fnExactGcdNatRow, standIns := [], harness := (true, "b7ae9c4c70739a1c086ba948facf54f85a27d07c13455eca5d5b7fe67c1fe0ae"), looks := false }, kinds := [], alts := [], laidByText := true, laidKinds := [.data, .data, .data], laidTests := true, laidLooks := .later }
def FnExactGcdNatCardSaid : Prop := Claim7.holds Tryd.pinned (.plain (OpenSpec.ofChange fnExactGcdNatSpec)) fnExactGcdNatCard

/-- THE TIED CARD OF 'laws.FnExactMakeNum'. -/
def fnExactMakeNumCard : Claim7 := { stood := { row := fnExactMakeNumRow, standIns := [], harness := (true, "b7ae9c4c70739a1c086ba948facf54f85a27d07c13455eca5d5b7fe67c1fe0ae"), looks := false }, kinds := [], alts := [], laidByText := true, laidKinds := [.data, .data, .data], laidTests := true, laidLooks := .later }
def FnExactMakeNumCardSaid : Prop := Claim7.holds Tryd.pinned (.plain (OpenSpec.ofChange fnExactMakeNumSpec)) fnExactMakeNumCard

/-- THE TIED CARD OF 'laws.FnExactAddNum'. -/
def fnExactAddNumCard : Claim7 := { stood := { row := fnExactAddNumRow, standIns := [], harness := (true, "b7ae9c4c70739a1c086ba948facf54f85a27d07c13455eca5d5b7fe67c1fe0ae"), looks := false }, kinds := [], alts := [], laidByText := true, laidKinds := [.data, .data, .data], laidTests := true, laidLooks := .later }
def FnExactAddNumCardSaid : Prop := Claim7.holds Tryd.pinned (.plain (OpenSpec.ofChange fnExactAddNumSpec)) fnExactAddNumCard

/-- THE TIED CARD OF 'laws.FnExactSubNum'. -/
def fnExactSubNumCard : Claim7 := { stood := { row := fnExactSubNumRow, standIns := [], harness := (true, "b7ae9c4c70739a1c086ba948facf54f85a27d07c13455eca5d5b7fe67c1fe0ae"), looks := false }, kinds := [], alts := [], laidByText := true, laidKinds := [.data, .data, .data], laidTests := true, laidLooks := .later }
def FnExactSubNumCardSaid : Prop := Claim7.holds Tryd.pinned (.plain (OpenSpec.ofChange fnExactSubNumSpec)) fnExactSubNumCard

/-- THE TIED CARD OF 'laws.FnExactMulNum'. -/
def fnExactMulNumCard : Claim7 := { stood := { row := fnExactMulNumRow, standIns := [], harness := (true, "b7ae9c4c70739a1c086ba948facf54f85a27d07c13455eca5d5b7fe67c1fe0ae"), looks := false }, kinds := [], alts := [], laidByText := true, laidKinds := [.data, .data, .data], laidTests := true, laidLooks := .later }
def FnExactMulNumCardSaid : Prop := Claim7.holds Tryd.pinned (.plain (OpenSpec.ofChange fnExactMulNumSpec)) fnExactMulNumCard

/-- THE TIED CARD OF 'laws.FnExactDivNum'. -/
def fnExactDivNumCard : Claim7 := { stood := { row := fnExactDivNumRow, standIns := [], harness := (true, "b7ae9c4c70739a1c086ba948facf54f85a27d07c13455eca5d5b7fe67c1fe0ae"), looks := false }, kinds := [], alts := [], laidByText := true, laidKinds := [.data, .data, .data], laidTests := true, laidLooks := .later }
def FnExactDivNumCardSaid : Prop := Claim7.holds Tryd.pinned (.plain (OpenSpec.ofChange fnExactDivNumSpec)) fnExactDivNumCard

/-- THE TIED CARD OF 'laws.FnExactFloorNum'. -/
def fnExactFloorNumCard : Claim7 := { stood := { row := fnExactFloorNumRow, standIns := [], harness := (true, "b7ae9c4c70739a1c086ba948facf54f85a27d07c13455eca5d5b7fe67c1fe0ae"), looks := false }, kinds := [], alts := [], laidByText := true, laidKinds := [.data, .data, .data], laidTests := true, laidLooks := .later }
def FnExactFloorNumCardSaid : Prop := Claim7.holds Tryd.pinned (.plain (OpenSpec.ofChange fnExactFloorNumSpec)) fnExactFloorNumCard

/-- THE TIED CARD OF 'laws.FnExactQuotientNum'. -/
def fnExactQuotientNumCard : Claim7 := { stood := { row := fnExactQuotientNumRow, standIns := [], harness := (true, "b7ae9c4c70739a1c086ba948facf54f85a27d07c13455eca5d5b7fe67c1fe0ae"), looks := false }, kinds := [], alts := [], laidByText := true, laidKinds := [.data, .data, .data], laidTests := true, laidLooks := .later }
def FnExactQuotientNumCardSaid : Prop := Claim7.holds Tryd.pinned (.plain (OpenSpec.ofChange fnExactQuotientNumSpec)) fnExactQuotientNumCard

/-- THE TIED CARD OF 'laws.FnExactReadNum'. -/
def fnExactReadNumCard : Claim7 := { stood := { row := fnExactReadNumRow, standIns := [], harness := (true, "b7ae9c4c70739a1c086ba948facf54f85a27d07c13455eca5d5b7fe67c1fe0ae"), looks := false }, kinds := [], alts := [], laidByText := true, laidKinds := [.data, .data, .data], laidTests := true, laidLooks := .later }
def FnExactReadNumCardSaid : Prop := Claim7.holds Tryd.pinned (.plain (OpenSpec.ofChange fnExactReadNumSpec)) fnExactReadNumCard

/-- THE TIED CARD OF 'laws.FnExactNumText'. -/
def fnExactNumTextCard : Claim7 := { stood := { row := fnExactNumTextRow, standIns := [], harness := (true, "b7ae9c4c70739a1c086ba948facf54f85a27d07c13455eca5d5b7fe67c1fe0ae"), looks := false }, kinds := [], alts := [], laidByText := true, laidKinds := [.data, .data, .data], laidTests := true, laidLooks := .later }
def FnExactNumTextCardSaid : Prop := Claim7.holds Tryd.pinned (.plain (OpenSpec.ofChange fnExactNumTextSpec)) fnExactNumTextCard

/-- THE SECOND FORM's CARD OF 'laws.FnExactGcdNat'. -/
def fnExactGcdNatUptoCard : Claim7 := { stood := { row := fnExactGcdNatUptoRow, standIns := [], harness := (true, "b7ae9c4c70739a1c086ba948facf54f85a27d07c13455eca5d5b7fe67c1fe0ae"), looks := false }, kinds := [], alts := [], laidByText := true, laidKinds := [.data, .data, .data], laidTests := true, laidLooks := .later }
def FnExactGcdNatUptoCardSaid : Prop := Claim7.holds Tryd.pinned (.plain (OpenSpec.upto fnExactGcdNatSpec)) fnExactGcdNatUptoCard

/-- THE SECOND FORM's CARD OF 'laws.FnExactMakeNum'. -/
def fnExactMakeNumUptoCard : Claim7 := { stood := { row := fnExactMakeNumUptoRow, standIns := [], harness := (true, "b7ae9c4c70739a1c086ba948facf54f85a27d07c13455eca5d5b7fe67c1fe0ae"), looks := false }, kinds := [], alts := [], laidByText := true, laidKinds := [.data, .data, .data], laidTests := true, laidLooks := .later }
def FnExactMakeNumUptoCardSaid : Prop := Claim7.holds Tryd.pinned (.plain (OpenSpec.upto fnExactMakeNumSpec)) fnExactMakeNumUptoCard

/-- THE SECOND FORM's CARD OF 'laws.FnExactAddNum'. -/
def fnExactAddNumUptoCard : Claim7 := { stood := { row := fnExactAddNumUptoRow, standIns := [], harness := (true, "b7ae9c4c70739a1c086ba948facf54f85a27d07c13455eca5d5b7fe67c1fe0ae"), looks := false }, kinds := [], alts := [], laidByText := true, laidKinds := [.data, .data, .data], laidTests := true, laidLooks := .later }
def FnExactAddNumUptoCardSaid : Prop := Claim7.holds Tryd.pinned (.plain (OpenSpec.upto fnExactAddNumSpec)) fnExactAddNumUptoCard

/-- THE SECOND FORM's CARD OF 'laws.FnExactSubNum'. -/
def fnExactSubNumUptoCard : Claim7 := { stood := { row := fnExactSubNumUptoRow, standIns := [], harness := (true, "b7ae9c4c70739a1c086ba948facf54f85a27d07c13455eca5d5b7fe67c1fe0ae"), looks := false }, kinds := [], alts := [], laidByText := true, laidKinds := [.data, .data, .data], laidTests := true, laidLooks := .later }
def FnExactSubNumUptoCardSaid : Prop := Claim7.holds Tryd.pinned (.plain (OpenSpec.upto fnExactSubNumSpec)) fnExactSubNumUptoCard

/-- THE SECOND FORM's CARD OF 'laws.FnExactMulNum'. -/
def fnExactMulNumUptoCard : Claim7 := { stood := { row := fnExactMulNumUptoRow, standIns := [], harness := (true, "b7ae9c4c70739a1c086ba948facf54f85a27d07c13455eca5d5b7fe67c1fe0ae"), looks := false }, kinds := [], alts := [], laidByText := true, laidKinds := [.data, .data, .data], laidTests := true, laidLooks := .later }
def FnExactMulNumUptoCardSaid : Prop := Claim7.holds Tryd.pinned (.plain (OpenSpec.upto fnExactMulNumSpec)) fnExactMulNumUptoCard

/-- THE SECOND FORM's CARD OF 'laws.FnExactDivNum'. -/
def fnExactDivNumUptoCard : Claim7 := { stood := { row := fnExactDivNumUptoRow, standIns := [], harness := (true, "b7ae9c4c70739a1c086ba948facf54f85a27d07c13455eca5d5b7fe67c1fe0ae"), looks := false }, kinds := [], alts := [], laidByText := true, laidKinds := [.data, .data, .data], laidTests := true, laidLooks := .later }
def FnExactDivNumUptoCardSaid : Prop := Claim7.holds Tryd.pinned (.plain (OpenSpec.upto fnExactDivNumSpec)) fnExactDivNumUptoCard

/-- THE SECOND FORM's CARD OF 'laws.FnExactFloorNum'. -/
def fnExactFloorNumUptoCard : Claim7 := { stood := { row := fnExactFloorNumUptoRow, standIns := [], harness := (true, "b7ae9c4c70739a1c086ba948facf54f85a27d07c13455eca5d5b7fe67c1fe0ae"), looks := false }, kinds := [], alts := [], laidByText := true, laidKinds := [.data, .data, .data], laidTests := true, laidLooks := .later }
def FnExactFloorNumUptoCardSaid : Prop := Claim7.holds Tryd.pinned (.plain (OpenSpec.upto fnExactFloorNumSpec)) fnExactFloorNumUptoCard

/-- THE SECOND FORM's CARD OF 'laws.FnExactQuotientNum'. -/
def fnExactQuotientNumUptoCard : Claim7 := { stood := { row := fnExactQuotientNumUptoRow, standIns := [], harness := (true, "b7ae9c4c70739a1c086ba948facf54f85a27d07c13455eca5d5b7fe67c1fe0ae"), looks := false }, kinds := [], alts := [], laidByText := true, laidKinds := [.data, .data, .data], laidTests := true, laidLooks := .later }
def FnExactQuotientNumUptoCardSaid : Prop := Claim7.holds Tryd.pinned (.plain (OpenSpec.upto fnExactQuotientNumSpec)) fnExactQuotientNumUptoCard

/-- THE SECOND FORM's CARD OF 'laws.FnExactReadNum'. -/
def fnExactReadNumUptoCard : Claim7 := { stood := { row := fnExactReadNumUptoRow, standIns := [], harness := (true, "b7ae9c4c70739a1c086ba948facf54f85a27d07c13455eca5d5b7fe67c1fe0ae"), looks := false }, kinds := [], alts := [], laidByText := true, laidKinds := [.data, .data, .data], laidTests := true, laidLooks := .later }
def FnExactReadNumUptoCardSaid : Prop := Claim7.holds Tryd.pinned (.plain (OpenSpec.upto fnExactReadNumSpec)) fnExactReadNumUptoCard

/-- THE SECOND FORM's CARD OF 'laws.FnExactNumText'. -/
def fnExactNumTextUptoCard : Claim7 := { stood := { row := fnExactNumTextUptoRow, standIns := [], harness := (true, "b7ae9c4c70739a1c086ba948facf54f85a27d07c13455eca5d5b7fe67c1fe0ae"), looks := false }, kinds := [], alts := [], laidByText := true, laidKinds := [.data, .data, .data], laidTests := true, laidLooks := .later }
def FnExactNumTextUptoCardSaid : Prop := Claim7.holds Tryd.pinned (.plain (OpenSpec.upto fnExactNumTextSpec)) fnExactNumTextUptoCard
end Rows
end Go.Proofs.YtcdidibphaemoaaDoor
