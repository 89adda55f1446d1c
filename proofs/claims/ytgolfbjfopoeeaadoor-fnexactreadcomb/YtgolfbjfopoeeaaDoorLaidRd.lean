/-
  The library's table and its two errors, as the rows of readers list them, in every world of a call.
-/
import Derived.Test.YtgolfbjfopoeeaaDoorHeapLaid
import Derived.Test.YtgolfbjfopoeeaaDoorAtoiX
import Derived.LaidLaws
namespace Go.Proofs.YtgolfbjfopoeeaaDoor
open Go.RowKit
set_option linter.unusedVariables false

/-- The list of that row. -/
abbrev laidList7 : List (String × DataW Unit) := [("math/bits.deBruijn32tab", Rows.laid_math_bits_deBruijn32tab), ("math/bits.deBruijn64tab", Rows.laid_math_bits_deBruijn64tab), ("internal/strconv.uint64pow10", Rows.laid_internal_strconv_uint64pow10), ("unicode/utf8.acceptRanges", Rows.laid_unicode_utf8_acceptRanges), ("strconv.ErrRange", Rows.laid_strconv_ErrRange), ("strconv.ErrSyntax", Rows.laid_strconv_ErrSyntax), ("unicode/utf8.first", Rows.laid_unicode_utf8_first)]
theorem gErrR : Tryd.prog.globalNamed ("strconv.ErrRange") = some 2 := by kernel_rfl
theorem gErrS : Tryd.prog.globalNamed ("strconv.ErrSyntax") = some 1 := by kernel_rfl
theorem gErrRT : (Tryd.prog.globals[2]?).map (·.type) = some 134 := by kernel_rfl
theorem gErrST : (Tryd.prog.globals[1]?).map (·.type) = some 134 := by kernel_rfl
theorem var_cell {w : World} {name : String} {g : Nat} {cs : Array Value} {v : Value} (hg : Tryd.prog.globalNamed name = some g) (h : w.var? Tryd.prog name = some cs) (hc : cs.toList = [v]) : w.cell? ⟨g, 0, none⟩ = some v := by
  unfold World.var? at h
  rw [hg] at h
  simp only [Option.bind_some] at h
  obtain ⟨l⟩ := cs
  simp only at hc
  subst hc
  cases hb : w.heap[g]? with
  | none => rw [hb] at h; cases h
  | some o =>
    rw [hb] at h
    cases o with
    | cells c t fz =>
      simp only [Option.some.injEq] at h
      subst h
      simp [World.cell?, hb]
    | _ => cases h

theorem tab_ev {W : World} (h : laidMetH Tryd.prog laidList7 W) : TabH W.heap.size W ∧ EV W := by
  rw [MakeChecks.laidMetH_plain _ _ _ (by kernel_rfl)] at h
  obtain ⟨ps, ⟨g0, t0, cs0, f0, p0, q0, hg0, ht0, hv0, hd0, ⟨g1, t1, cs1, f1, p1, q1, hg1, ht1, hv1, hd1, ⟨g2, t2, cs2, f2, p2, q2, hg2, ht2, hv2, hd2, ⟨g3, t3, cs3, f3, p3, q3, hg3, ht3, hv3, hd3, ⟨g4, t4, cs4, f4, p4, q4, hg4, ht4, hv4, hd4, ⟨g5, t5, cs5, f5, p5, q5, hg5, ht5, hv5, hd5, ⟨g6, t6, cs6, f6, p6, q6, hg6, ht6, hv6, hd6, _, _⟩, _⟩, _⟩, _⟩, _⟩, _⟩, _⟩, _, _⟩ := h
  obtain rfl := Option.some.inj (gTab.symm.trans hg2)
  obtain rfl := Option.some.inj (gTabType.symm.trans ht2)
  obtain rfl := Option.some.inj (gErrRT.symm.trans (by rw [← Option.some.inj (gErrR.symm.trans hg4)] at ht4; exact ht4))
  obtain rfl := Option.some.inj (gErrST.symm.trans (by rw [← Option.some.inj (gErrS.symm.trans hg5)] at ht5; exact ht5))
  rw [tabEq] at hd2
  have ht : Lib.TabIs Tryd.prog W ("internal/strconv.uint64pow10") .u64 Lib.pow10Tab := by
    unfold Lib.TabIs
    rw [hv2, ← Lib.cells_of_tab undTab undU64 cellsU64 cellsTab hd2]
  have hc := ht.cell gTab 0 (by decide)
  have hlt : 0 < W.heap.size := block_lt_of_cell (a := ⟨0, 0, none⟩) hc
  refine ⟨fun w' hw => var?_below hw gTab hlt ht, ?_, ?_⟩
  · obtain ⟨_, u, v, hcs, _, _⟩ := iface_of_trod Tryd.underlying134 hd5
    exact ⟨_, var_cell gErrS hv5 hcs, .inr ⟨_, _, rfl⟩⟩
  · obtain ⟨_, u, v, hcs, _, _⟩ := iface_of_trod Tryd.underlying134 hd4
    exact ⟨_, var_cell gErrR hv4 hcs, .inr ⟨_, _, rfl⟩⟩
end Go.Proofs.YtgolfbjfopoeeaaDoor
