/-
  DERIVED. GIVEN WITH THE SEED: THE CARDS: each row of YtkhabnficogbjaaDoorRows.lean that lists a variable, with what it lists TIED to the program's text (the seventh form; the later family's looks); each row that meets fmt, with fmt's text TOLD by the authors' own Lean function (tested against real Go, not proved from fmt's source: count such statements apart). THE CARD IS WHAT COUNTS. Prove the row's statement (the work); the ties are given (YtkhabnficogbjaaDoorTie.lean); close each card by the builder's one call (the guide's Derived/Test/ToyasCard.lean, 'card_holds'). Laid BY PROGRAM, IN A SANDBOX (cutbox-door.mjs). By AI agents, Wed Nov 11 2026. No macro, syntax, notation, axiom, sorry.
-/
import Derived.Test.YtkhabnficogbjaaDoorRows
import GoSem.ClaimSeven
namespace Go.Proofs.YtkhabnficogbjaaDoor
namespace Rows

/-- THE TIED CARD OF 'laws.FnExactOfRadix'. -/
def fnExactOfRadixCard : Claim7 := { stood := { row := fnExactOfRadixRow, standIns := [], harness := (true, "b27a5baf1f2c08397c04a7c4b8237b138e4ee26f491ed01309188f849e0d1ca5"), looks := false }, kinds := [], alts := [], laidByText := true, laidKinds := [.data, .data, .data], laidTests := true, laidLooks := .later }
def FnExactOfRadixCardSaid : Prop := Claim7.holds Tryd.pinned (.plain (OpenSpec.ofChange fnExactOfRadixSpec)) fnExactOfRadixCard

/-- THE TIED CARD OF 'laws.FnExactReadNum'. -/
def fnExactReadNumCard : Claim7 := { stood := { row := fnExactReadNumRow, standIns := [], harness := (true, "b27a5baf1f2c08397c04a7c4b8237b138e4ee26f491ed01309188f849e0d1ca5"), looks := false }, kinds := [], alts := [], laidByText := true, laidKinds := [.data, .data, .data], laidTests := true, laidLooks := .later }
def FnExactReadNumCardSaid : Prop := Claim7.holds Tryd.pinned (.plain (OpenSpec.ofChange fnExactReadNumSpec)) fnExactReadNumCard

/-- THE TIED CARD OF 'laws.FnExactGoodSymbol'. -/
def fnExactGoodSymbolCard : Claim7 := { stood := { row := fnExactGoodSymbolRow, standIns := [], harness := (true, "b27a5baf1f2c08397c04a7c4b8237b138e4ee26f491ed01309188f849e0d1ca5"), looks := false }, kinds := [], alts := [], laidByText := true, laidKinds := [.data, .data, .data], laidTests := true, laidLooks := .later }
def FnExactGoodSymbolCardSaid : Prop := Claim7.holds Tryd.pinned (.plain (OpenSpec.ofChange fnExactGoodSymbolSpec)) fnExactGoodSymbolCard

/-- THE SECOND FORM's CARD OF 'laws.FnExactOfRadix'. -/
def fnExactOfRadixUptoCard : Claim7 := { stood := { row := fnExactOfRadixUptoRow, standIns := [], harness := (true, "b27a5baf1f2c08397c04a7c4b8237b138e4ee26f491ed01309188f849e0d1ca5"), looks := false }, kinds := [], alts := [], laidByText := true, laidKinds := [.data, .data, .data], laidTests := true, laidLooks := .later }
def FnExactOfRadixUptoCardSaid : Prop := Claim7.holds Tryd.pinned (.plain (OpenSpec.upto fnExactOfRadixSpec)) fnExactOfRadixUptoCard

/-- THE SECOND FORM's CARD OF 'laws.FnExactReadNum'. -/
def fnExactReadNumUptoCard : Claim7 := { stood := { row := fnExactReadNumUptoRow, standIns := [], harness := (true, "b27a5baf1f2c08397c04a7c4b8237b138e4ee26f491ed01309188f849e0d1ca5"), looks := false }, kinds := [], alts := [], laidByText := true, laidKinds := [.data, .data, .data], laidTests := true, laidLooks := .later }
def FnExactReadNumUptoCardSaid : Prop := Claim7.holds Tryd.pinned (.plain (OpenSpec.upto fnExactReadNumSpec)) fnExactReadNumUptoCard

/-- THE SECOND FORM's CARD OF 'laws.FnExactGoodSymbol'. -/
def fnExactGoodSymbolUptoCard : Claim7 := { stood := { row := fnExactGoodSymbolUptoRow, standIns := [], harness := (true, "b27a5baf1f2c08397c04a7c4b8237b138e4ee26f491ed01309188f849e0d1ca5"), looks := false }, kinds := [], alts := [], laidByText := true, laidKinds := [.data, .data, .data], laidTests := true, laidLooks := .later }
def FnExactGoodSymbolUptoCardSaid : Prop := Claim7.holds Tryd.pinned (.plain (OpenSpec.upto fnExactGoodSymbolSpec)) fnExactGoodSymbolUptoCard
end Rows
end Go.Proofs.YtkhabnficogbjaaDoor
