/-
  DERIVED. GIVEN WITH THE SEED: THE CARDS: each row of YtmfpnbmfcoahbaaDoorRows.lean that lists a variable, with what it lists TIED to the program's text (the seventh form; the later family's looks); each row that meets fmt, with fmt's text TOLD by the authors' own Lean function (tested against real Go, not proved from fmt's source: count such statements apart). THE CARD IS WHAT COUNTS. Prove the row's statement (the work); the ties are given (YtmfpnbmfcoahbaaDoorTie.lean); close each card by the builder's one call (the guide's Derived/Test/ToyasCard.lean, 'card_holds'). Laid BY PROGRAM, IN A SANDBOX (cutbox-door.mjs). By AI agents, Wed Nov 11 2026. No macro, syntax, notation, axiom, sorry.
-/
import Derived.Test.YtmfpnbmfcoahbaaDoorRows
import GoSem.ClaimSeven
namespace Go.Proofs.YtmfpnbmfcoahbaaDoor
namespace Rows

/-- THE TIED CARD OF 'laws.FnRoot'. -/
def fnRootCard : Claim7 := { stood := { row := fnRootRow, standIns := [], harness := (true, "735c9be21adb3ca057410176c005db31abfdc398c472d18d1846b1be7e0f6d3b"), looks := true }, kinds := [], alts := [], laidByText := true, laidKinds := [.data, .data, .data], laidTests := true, laidLooks := .later }
def FnRootCardSaid : Prop := Claim7.holds Tryd.pinned (.plain (OpenSpec.ofChange fnRootSpec)) fnRootCard

/-- THE TIED CARD OF 'laws.FnChinese'. -/
def fnChineseCard : Claim7 := { stood := { row := fnChineseRow, standIns := [], harness := (true, "735c9be21adb3ca057410176c005db31abfdc398c472d18d1846b1be7e0f6d3b"), looks := true }, kinds := [], alts := [], laidByText := true, laidKinds := [.data, .data, .data], laidTests := true, laidLooks := .later }
def FnChineseCardSaid : Prop := Claim7.holds Tryd.pinned (.plain (OpenSpec.ofChange fnChineseSpec)) fnChineseCard

/-- THE TIED CARD OF 'laws.FnFactors'. -/
def fnFactorsCard : Claim7 := { stood := { row := fnFactorsRow, standIns := [], harness := (true, "735c9be21adb3ca057410176c005db31abfdc398c472d18d1846b1be7e0f6d3b"), looks := true }, kinds := [], alts := [], laidByText := true, laidKinds := [.data, .data, .data, .sentinel, .sentinel], laidTests := true, laidLooks := .later }
def FnFactorsCardSaid : Prop := Claim7.holds Tryd.pinned (.plain (OpenSpec.ofChange fnFactorsSpec)) fnFactorsCard

/-- THE SECOND FORM's CARD OF 'laws.FnRoot'. -/
def fnRootUptoCard : Claim7 := { stood := { row := fnRootUptoRow, standIns := [], harness := (true, "735c9be21adb3ca057410176c005db31abfdc398c472d18d1846b1be7e0f6d3b"), looks := true }, kinds := [], alts := [], laidByText := true, laidKinds := [.data, .data, .data], laidTests := true, laidLooks := .later }
def FnRootUptoCardSaid : Prop := Claim7.holds Tryd.pinned (.plain (OpenSpec.upto fnRootSpec)) fnRootUptoCard

/-- THE SECOND FORM's CARD OF 'laws.FnChinese'. -/
def fnChineseUptoCard : Claim7 := { stood := { row := fnChineseUptoRow, standIns := [], harness := (true, "735c9be21adb3ca057410176c005db31abfdc398c472d18d1846b1be7e0f6d3b"), looks := true }, kinds := [], alts := [], laidByText := true, laidKinds := [.data, .data, .data], laidTests := true, laidLooks := .later }
def FnChineseUptoCardSaid : Prop := Claim7.holds Tryd.pinned (.plain (OpenSpec.upto fnChineseSpec)) fnChineseUptoCard

/-- THE SECOND FORM's CARD OF 'laws.FnFactors'. -/
def fnFactorsUptoCard : Claim7 := { stood := { row := fnFactorsUptoRow, standIns := [], harness := (true, "735c9be21adb3ca057410176c005db31abfdc398c472d18d1846b1be7e0f6d3b"), looks := true }, kinds := [], alts := [], laidByText := true, laidKinds := [.data, .data, .data, .sentinel, .sentinel], laidTests := true, laidLooks := .later }
def FnFactorsUptoCardSaid : Prop := Claim7.holds Tryd.pinned (.plain (OpenSpec.upto fnFactorsSpec)) fnFactorsUptoCard
end Rows
end Go.Proofs.YtmfpnbmfcoahbaaDoor
