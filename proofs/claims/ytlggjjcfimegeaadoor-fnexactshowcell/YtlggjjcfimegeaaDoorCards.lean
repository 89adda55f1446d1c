/-
  DERIVED. GIVEN WITH THE SEED: THE CARDS: each row of YtlggjjcfimegeaaDoorRows.lean that lists a variable, with what it lists TIED to the program's text (the seventh form; the later family's looks); each row that meets fmt, with fmt's text TOLD by the authors' own Lean function (tested against real Go, not proved from fmt's source: count such statements apart). THE CARD IS WHAT COUNTS. Prove the row's statement (the work); the ties are given (YtlggjjcfimegeaaDoorTie.lean); close each card by the builder's one call (the guide's Derived/Test/ToyasCard.lean, 'card_holds'). Laid BY PROGRAM, IN A SANDBOX (cutbox-door.mjs). By AI agents, Wed Nov 11 2026. No macro, syntax, notation, axiom, sorry.
-/
import Derived.Test.YtlggjjcfimegeaaDoorRows
import GoSem.ClaimSeven
namespace Go.Proofs.YtlggjjcfimegeaaDoor
namespace Rows

/-- THE TIED CARD OF 'laws.FnExactShowCell'. -/
def fnExactShowCellCard : Claim7 := { stood := { row := fnExactShowCellRow, standIns := [], harness := (true, "68f61c7ee75230b69941eda62989cc47704421fff32f8491e0b83ae2af733a80"), looks := false }, kinds := [], alts := [], laidByText := true, laidKinds := [.data, .data, .data], laidTests := true, laidLooks := .later }
def FnExactShowCellCardSaid : Prop := Claim7.holds Tryd.pinned (.plain (OpenSpec.ofChange fnExactShowCellSpec)) fnExactShowCellCard

/-- THE TIED CARD OF 'laws.FnExactPlayHeap'. -/
def fnExactPlayHeapCard : Claim7 := { stood := { row := fnExactPlayHeapRow, standIns := [], harness := (true, "68f61c7ee75230b69941eda62989cc47704421fff32f8491e0b83ae2af733a80"), looks := false }, kinds := [], alts := [], laidByText := true, laidKinds := [.data, .data, .data], laidTests := true, laidLooks := .later }
def FnExactPlayHeapCardSaid : Prop := Claim7.holds Tryd.pinned (.plain (OpenSpec.ofChange fnExactPlayHeapSpec)) fnExactPlayHeapCard

/-- THE TIED CARD OF 'laws.FnExactModelHeap'. -/
def fnExactModelHeapCard : Claim7 := { stood := { row := fnExactModelHeapRow, standIns := [], harness := (true, "68f61c7ee75230b69941eda62989cc47704421fff32f8491e0b83ae2af733a80"), looks := false }, kinds := [], alts := [], laidByText := true, laidKinds := [.data, .data, .data], laidTests := true, laidLooks := .later }
def FnExactModelHeapCardSaid : Prop := Claim7.holds Tryd.pinned (.plain (OpenSpec.ofChange fnExactModelHeapSpec)) fnExactModelHeapCard

/-- THE SECOND FORM's CARD OF 'laws.FnExactShowCell'. -/
def fnExactShowCellUptoCard : Claim7 := { stood := { row := fnExactShowCellUptoRow, standIns := [], harness := (true, "68f61c7ee75230b69941eda62989cc47704421fff32f8491e0b83ae2af733a80"), looks := false }, kinds := [], alts := [], laidByText := true, laidKinds := [.data, .data, .data], laidTests := true, laidLooks := .later }
def FnExactShowCellUptoCardSaid : Prop := Claim7.holds Tryd.pinned (.plain (OpenSpec.upto fnExactShowCellSpec)) fnExactShowCellUptoCard

/-- THE SECOND FORM's CARD OF 'laws.FnExactPlayHeap'. -/
def fnExactPlayHeapUptoCard : Claim7 := { stood := { row := fnExactPlayHeapUptoRow, standIns := [], harness := (true, "68f61c7ee75230b69941eda62989cc47704421fff32f8491e0b83ae2af733a80"), looks := false }, kinds := [], alts := [], laidByText := true, laidKinds := [.data, .data, .data], laidTests := true, laidLooks := .later }
def FnExactPlayHeapUptoCardSaid : Prop := Claim7.holds Tryd.pinned (.plain (OpenSpec.upto fnExactPlayHeapSpec)) fnExactPlayHeapUptoCard

/-- THE SECOND FORM's CARD OF 'laws.FnExactModelHeap'. -/
def fnExactModelHeapUptoCard : Claim7 := { stood := { row := fnExactModelHeapUptoRow, standIns := [], harness := (true, "68f61c7ee75230b69941eda62989cc47704421fff32f8491e0b83ae2af733a80"), looks := false }, kinds := [], alts := [], laidByText := true, laidKinds := [.data, .data, .data], laidTests := true, laidLooks := .later }
def FnExactModelHeapUptoCardSaid : Prop := Claim7.holds Tryd.pinned (.plain (OpenSpec.upto fnExactModelHeapSpec)) fnExactModelHeapUptoCard
end Rows
end Go.Proofs.YtlggjjcfimegeaaDoor
