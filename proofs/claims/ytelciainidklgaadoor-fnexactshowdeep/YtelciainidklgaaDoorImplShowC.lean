/-
  What impl.ShowCell answers.
-/
import Derived.Test.YtelciainidklgaaDoorImplShow
namespace Go.Proofs.YtelciainidklgaaDoor
open Go.RowKit BL
set_option linter.unusedVariables false

/-- Bytes that are owned, as a text. -/
theorem convH_own {w : World} {B : Nat} {v : Value} {t : List UInt8} (h : w.ownsRow B 5 1 v t.length (Lib.byteCells t)) : (convert 63 9 v).run Tryd.prog w = .ok (.string ⟨t.toArray⟩) w := by
  rcases h.2 with ⟨rfl, h0⟩ | ⟨gb, cap, cur, rfl, _⟩
  · have : t = [] := List.length_eq_zero_iff.1 h0
    subst this
    exact convH_nil w
  · exact run_convert_bytes_back (P := Tryd.prog) w 63 9 5 ⟨gb, 0, none⟩ cap t Tryd.underlying63 Tryd.underlying5 Tryd.underlying9 (fun q hq => by
      have := h.cells (g := gb) rfl q (.int .u8 (t[q].toNat : Int)) (by simp [Lib.byteCells, List.getElem?_eq_getElem hq])
      exact this)

set_option maxHeartbeats 4000000 in
set_option maxRecDepth 100000 in
theorem implShowCell_any (m : Hp) (at_ : Int) (v1 v2 : Value) (w : World) (hs : HpSmall m 1048576) (hM : HpRd w v1 v2 m) (hr : clRange m.cells) (hT : TabH w.heap.size w) :
    Calls Tryd.prog 24 #[.agg #[.int .i64 m.old, v1, v2], .int .i64 at_] w fun e w' => e = .returned (.tuple #[.string (showOut m at_).1, .bool (showOut m at_).2]) ∧ Below w.heap.size w w' := by
  obtain ⟨o1, c1, e1, x1⟩ := hM.1
  obtain ⟨o2, c2, e2, x2⟩ := hM.2
  have HX1 := hideT' x1
  clear x1 x2
  subst e1 e2
  have hB : Below w.heap.size w (w.alloc (.cells #[.int .i64 m.old, .slice o1 m.cells.length c1, .slice o2 m.roots.length c2] 50)) := (Below.refl _ _).alloc (Nat.le_refl _) _
  have HR : Hid (RowAt (w.alloc (.cells #[.int .i64 m.old, .slice o1 m.cells.length c1, .slice o2 m.roots.length c2] 50)) w.heap.size 50 #[.int .i64 m.old, .slice o1 m.cells.length c1, .slice o2 m.roots.length c2]) := RowAt.new _ _ _
  have HG := hideT' (implGoodHeap_any m _ _ _ hs (hM.below hB))
  have HM := hideT' hM
  have HRG := hideT' hr
  have HB := hideT' hB
  have HT := hideT' hT
  have hsz := hs.1
  clear hM hr hB hT
  go_enter Tryd.func24, Tryd.ntmps24
  go_wp2_with fail
  refine HG.out.mono ?_
  rintro e w1 ⟨rfl, hB1⟩
  have hR1 := HR.out.below hB1 (by simp)
  have hB1' := HB.out.trans (hB1.mono (by simp))
  have hs1 := hB1.size
  simp only [World.size_alloc] at hs1
  have hS1 : w1.cell? ⟨w.heap.size, 1, none⟩ = some (.slice o1 m.cells.length c1) := by rw [cell_of_row w1 _ _ _ _ _ hR1]; rfl
  obtain ⟨q, hq⟩ : ∃ q, q = hpOk m := ⟨_, rfl⟩
  rw [← hq]
  have HQ := hideT' hq
  clear hq hB1 hR1
  cases q with
  | false =>
    have HN : Hid (showOut m at_ = (⟨#[]⟩, false)) := by unfold Hid showOut; rw [← HQ.out]; rfl
    go_wp2
    go_ret2
    exact ⟨by rw [HN.out]; rfl, hB1'⟩
  | true =>
  have hok : hpOk m = true := HQ.out.symm
  have HOK := hideT' (hpOk_parts hok)
  have hlen : m.cells.length ≤ 200 := HOK.out.1
  have HH := hideT' (hasCell_any w.heap.size o1 m.cells.length c1 at_ w1 hS1 hsz)
  clear hok
  go_wp2_with fail
  refine HH.out.mono ?_
  rintro e w2 ⟨rfl, rfl⟩
  obtain ⟨q2, hq2⟩ : ∃ q, q = rootOk m.cells.length at_ := ⟨_, rfl⟩
  rw [← hq2]
  have HQ2 := hideT' hq2
  clear hq2
  cases q2 with
  | false =>
    have HN : Hid (showOut m at_ = (⟨#[]⟩, false)) := by
      unfold Hid showOut
      have := HQ2.out
      unfold rootOk at this
      rw [← HQ.out, ← this]; rfl
    go_wp2
    go_ret2
    exact ⟨by rw [HN.out]; rfl, hB1'⟩
  | true =>
  obtain ⟨i, hi, rfl⟩ : ∃ i : Nat, i < m.cells.length ∧ at_ = (i : Int) := by
    have := HQ2.out.symm
    unfold rootOk at this
    simp only [Bool.and_eq_true, decide_eq_true_eq] at this
    exact ⟨at_.toNat, by omega, by omega⟩
  have HN : Hid (showOut m (i : Int) = if 500 < (showC m.cells i).length then (⟨#[]⟩, false) else (showB m.cells i, true)) := by
    unfold Hid showOut
    have := HQ2.out
    unfold rootOk at this
    rw [← HQ.out, ← this]; rfl
  have hgB : ∀ g : Nat, o1 = some ⟨g, 0, none⟩ → g < w2.heap.size := fun g e => by
    obtain ⟨g', hg', hlt, _⟩ := HX1.out (by intro e; rw [e] at hi; simp at hi)
    rw [hg'] at e; cases e
    omega
  have HC := hideT' (appendCell_any m.cells HOK.out.2 HOK.out.1 HRG.out w.heap.size o1 c1 i hi w2.heap.size (.slice none 0 0) [] w2 (by omega) (Nat.le_refl _) hgB hS1 (HM.out.below hB1').1 (World.ownsRow_nil _ _ _ _) (by simp) ((HT.out.on hB1').up (by omega)))
  have hsf := show_full HOK.out.2 i hi
  have HSF := hideT' hsf
  clear hgB hsf
  go_wp2_with fail
  refine HC.out.mono ?_
  rintro e w3 ⟨⟨v3, t3, ok, rfl, hown, hokk, htt, _⟩, hB3, _⟩
  have hB3' := hB1'.trans (hB3.mono (by omega))
  have hcv := convH_own hown
  have HOKK := hideT' hokk
  have HTT := hideT' htt
  clear hown hokk htt hB3
  cases ok with
  | false =>
    have hno : ¬ (fullC m.cells i).length ≤ 500 := by have := of_decide_eq_false HOKK.out.symm; simpa using this
    have HN2 : Hid (showOut m (i : Int) = (⟨#[]⟩, false)) := by
      unfold Hid
      rw [HN.out, if_pos]
      rcases HSF.out with h | h
      · rw [h]; omega
      · exact h.1
    go_wp2
    go_ret2
    exact ⟨by rw [HN2.out]; rfl, hB3'⟩
  | true =>
    have hyes : (fullC m.cells i).length ≤ 500 := by have := of_decide_eq_true HOKK.out.symm; simpa using this
    have h3 := HTT.out rfl
    have HN2 : Hid (showOut m (i : Int) = (⟨t3.toArray⟩, true)) := by
      unfold Hid
      have hsc : showC m.cells i = fullC m.cells i := by
        rcases HSF.out with h | h
        · exact h
        · omega
      rw [HN.out, if_neg (by rw [hsc]; omega), showB, hsc, h3]; rfl
    clear h3 hyes
    go_wp2
    go_ret2
    exact ⟨by rw [HN2.out]; rfl, hB3'⟩
end Go.Proofs.YtelciainidklgaaDoor
