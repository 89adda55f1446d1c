/-
  The library's table of powers of ten, as the rows list it, in every world of a call.
-/
import Derived.Test.YtmfpnbmfcoahbaaDoorCards
import Derived.Test.YtmfpnbmfcoahbaaDoorTie
import Derived.Test.YtmfpnbmfcoahbaaDoorText
import Derived.WalkSmall
import Derived.Lib.LaidTab
import Derived.LaidMore
import Derived.MakeChecks
import Derived.ProofKit
namespace Go.Proofs.YtmfpnbmfcoahbaaDoor
open Go.RowKit
set_option linter.unusedVariables false

theorem own : ownKnob Tryd.prog.godebug = none := by kernel_rfl
theorem gTab : Tryd.prog.globalNamed ("internal/strconv.uint64pow10") = some 2 := by kernel_rfl
theorem gTabType : (Tryd.prog.globals[2]?).map (·.type) = some 143 := by kernel_rfl
theorem cellsTab : Tryd.prog.cellsOf 143 = 20 := by kernel_rfl
theorem cellsU64 : Tryd.prog.cellsOf 39 = 1 := by kernel_rfl
theorem undTab : Tryd.prog.underlying 143 = some (.array 20 39) := by kernel_rfl
theorem undU64 : Tryd.prog.underlying 39 = some (.int .u64) := by kernel_rfl
theorem tabEq : (Rows.laid_internal_strconv_uint64pow10 : DataW Unit) = Lib.tabData .u64 Lib.pow10Tab := by kernel_rfl

/-- The list of every row of this seat. -/
abbrev laidList : List (String × DataW Unit) := [("math/bits.deBruijn32tab", Rows.laid_math_bits_deBruijn32tab), ("math/bits.deBruijn64tab", Rows.laid_math_bits_deBruijn64tab), ("internal/strconv.uint64pow10", Rows.laid_internal_strconv_uint64pow10)]

theorem tab_is {W : World} (h : laidMetH Tryd.prog laidList W) : Lib.TabIs Tryd.prog W ("internal/strconv.uint64pow10") .u64 Lib.pow10Tab := by
  rw [MakeChecks.laidMetH_plain _ _ _ (by kernel_rfl)] at h
  obtain ⟨ps, ⟨g0, t0, cs0, f0, p0, q0, hg0, ht0, hv0, hd0, ⟨g1, t1, cs1, f1, p1, q1, hg1, ht1, hv1, hd1, ⟨g2, t2, cs2, f2, p2, q2, hg2, ht2, hv2, hd2, _, _⟩, _⟩, _⟩, _, _⟩ := h
  obtain rfl := Option.some.inj (gTab.symm.trans hg2)
  obtain rfl := Option.some.inj (gTabType.symm.trans ht2)
  rw [tabEq] at hd2
  unfold Lib.TabIs
  rw [hv2, ← Lib.cells_of_tab undTab undU64 cellsU64 cellsTab hd2]

theorem tab_of {W : World} (h : laidMetH Tryd.prog laidList W) : Tab W.heap.size W := by
  have ht := tab_is h
  have hc := ht.cell gTab 0 (by decide)
  have hlt : 2 < W.heap.size := block_lt_of_cell (a := ⟨2, 0, none⟩) hc
  intro w' hw
  exact var?_below hw gTab hlt ht

end Go.Proofs.YtmfpnbmfcoahbaaDoor
