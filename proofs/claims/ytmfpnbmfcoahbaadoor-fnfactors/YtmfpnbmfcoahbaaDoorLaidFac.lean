/-
  The library's table and its two errors, as the row of FactorNat lists them, in every world of a call.
-/
import Derived.Test.YtmfpnbmfcoahbaaDoorLaid
import Derived.Test.YtmfpnbmfcoahbaaDoorAtoiX
import Derived.LaidLaws
namespace Go.Proofs.YtmfpnbmfcoahbaaDoor
open Go.RowKit
set_option linter.unusedVariables false

/-- The list of that row. -/
abbrev laidList5 : List (String × DataW Unit) := [("math/bits.deBruijn32tab", Rows.laid_math_bits_deBruijn32tab), ("math/bits.deBruijn64tab", Rows.laid_math_bits_deBruijn64tab), ("internal/strconv.uint64pow10", Rows.laid_internal_strconv_uint64pow10), ("strconv.ErrRange", Rows.laid_strconv_ErrRange), ("strconv.ErrSyntax", Rows.laid_strconv_ErrSyntax)]
theorem gErrR : Tryd.prog.globalNamed ("strconv.ErrRange") = some 1 := by kernel_rfl
theorem gErrS : Tryd.prog.globalNamed ("strconv.ErrSyntax") = some 0 := by kernel_rfl
theorem gErrRT : (Tryd.prog.globals[1]?).map (·.type) = some 80 := by kernel_rfl
theorem gErrST : (Tryd.prog.globals[0]?).map (·.type) = some 80 := by kernel_rfl
theorem var_cell {w : World} {name : String} {g : Nat} {cs : Array Value} {v : Value} (hg : Tryd.prog.globalNamed name = some g) (h : w.var? Tryd.prog name = some cs) (hc : cs.toList = [v]) : w.cell? ⟨g, 0, none⟩ = some v := by
  unfold World.var? at h
  rw [hg] at h
  simp only [Option.bind_some] at h
  obtain ⟨l⟩ := cs
  simp only at hc
  subst hc
  cases hb : w.heap[g]? with
  | none => rw [hb] at h; cases h
  | some o =>
    rw [hb] at h
    cases o with
    | cells c t fz =>
      simp only [Option.some.injEq] at h
      subst h
      simp [World.cell?, hb]
    | _ => cases h

theorem tab_ev {W : World} (h : laidMetH Tryd.prog laidList5 W) : Tab W.heap.size W ∧ EV W := by
  rw [MakeChecks.laidMetH_plain _ _ _ (by kernel_rfl)] at h
  obtain ⟨ps, ⟨g0, t0, cs0, f0, p0, q0, hg0, ht0, hv0, hd0, ⟨g1, t1, cs1, f1, p1, q1, hg1, ht1, hv1, hd1, ⟨g2, t2, cs2, f2, p2, q2, hg2, ht2, hv2, hd2, ⟨g3, t3, cs3, f3, p3, q3, hg3, ht3, hv3, hd3, ⟨g4, t4, cs4, f4, p4, q4, hg4, ht4, hv4, hd4, _, _⟩, _⟩, _⟩, _⟩, _⟩, _, _⟩ := h
  obtain rfl := Option.some.inj (gTab.symm.trans hg2)
  obtain rfl := Option.some.inj (gTabType.symm.trans ht2)
  obtain rfl := Option.some.inj (gErrRT.symm.trans (by rw [← Option.some.inj (gErrR.symm.trans hg3)] at ht3; exact ht3))
  obtain rfl := Option.some.inj (gErrST.symm.trans (by rw [← Option.some.inj (gErrS.symm.trans hg4)] at ht4; exact ht4))
  rw [tabEq] at hd2
  have ht : Lib.TabIs Tryd.prog W ("internal/strconv.uint64pow10") .u64 Lib.pow10Tab := by
    unfold Lib.TabIs
    rw [hv2, ← Lib.cells_of_tab undTab undU64 cellsU64 cellsTab hd2]
  have hc := ht.cell gTab 0 (by decide)
  have hlt : 2 < W.heap.size := block_lt_of_cell (a := ⟨2, 0, none⟩) hc
  refine ⟨fun w' hw => var?_below hw gTab hlt ht, ?_, ?_⟩
  · obtain ⟨_, u, v, hcs, _, _⟩ := iface_of_trod Tryd.underlying80 hd4
    exact ⟨_, var_cell gErrS hv4 hcs, .inr ⟨_, _, rfl⟩⟩
  · obtain ⟨_, u, v, hcs, _, _⟩ := iface_of_trod Tryd.underlying80 hd3
    exact ⟨_, var_cell gErrR hv3 hcs, .inr ⟨_, _, rfl⟩⟩
end Go.Proofs.YtmfpnbmfcoahbaaDoor
