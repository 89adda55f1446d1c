/-
  What impl.GoodHeap answers.
-/
import Derived.Test.YtelciainidklgaaDoorSpecHeap
import Derived.Deep.QuietTactic
import Derived.BigQuiet
namespace Go.Proofs.YtelciainidklgaaDoor
open Go.RowKit
set_option linter.unusedVariables false

theorem below_drH {N : Nat} {w w' : World} (h : Below N w w') (k : Nat) : Below N w (w'.drewN k) := ⟨h.os, h.tape, h.output, h.size, h.block⟩
/-- A cell that a heap of n cells can hold: its parts are any cells. -/
def sndC (n : Nat) (c : Cl) : Bool := if c.1 then decide (c.2.2.1 = 0) && decide (c.2.2.2 = 0) else decide (c.2.1 = 0) && (rootOk n c.2.2.1 && rootOk n c.2.2.2)
/-- A heap that is good but that its pairs may name any cells. -/
def sndOk (h : Hp) : Bool := decide (h.cells.length ≤ 200) && (decide (h.roots.length ≤ 60) && ((decide (0 ≤ h.old) && decide (h.old ≤ (h.cells.length : Int))) && (h.cells.all (sndC h.cells.length) && h.roots.all (rootOk h.cells.length))))
/-- Pairs that name cells ahead of them. -/
def aheadC (i : Nat) (c : Cl) : Bool := c.1 || decide (max c.2.2.1 c.2.2.2 < (i : Int))
def aheadL : Nat → List Cl → Bool
  | _, [] => true
  | k, c :: l => aheadC k c && aheadL (k + 1) l
theorem aheadL_drop {cs : List Cl} {k : Nat} (hk : k < cs.length) (h : aheadL 0 cs = aheadL k (cs.drop k)) : aheadL 0 cs = (aheadC k (cs.getD k default) && aheadL (k + 1) (cs.drop (k + 1))) := by
  have : cs.getD k default = cs[k] := by simp [List.getD, List.getElem?_eq_getElem hk]
  rw [h, this, List.drop_eq_getElem_cons hk]; rfl
theorem sndC_drop {n : Nat} {rs : List Cl} {k : Nat} (hk : k < rs.length) (h : rs.all (sndC n) = (rs.drop k).all (sndC n)) : rs.all (sndC n) = (sndC n (rs.getD k default) && (rs.drop (k + 1)).all (sndC n)) := by
  have : rs.getD k default = rs[k] := by simp [List.getD, List.getElem?_eq_getElem hk]
  rw [h, this, List.drop_eq_getElem_cons hk, List.all_cons]
theorem clOk_snd {i n : Nat} (c : Cl) (hi : i < n) : (sndC n c && aheadC i c) = clOk i c := by
  obtain ⟨lf, k, a, b⟩ := c
  cases lf with
  | true => simp [sndC, aheadC, clOk]
  | false =>
    simp only [sndC, aheadC, clOk, rootOk, Bool.false_eq_true, if_false, Bool.false_or]
    rw [Bool.eq_iff_iff]
    simp only [Bool.and_eq_true, decide_eq_true_eq]
    omega
theorem clsOk_snd {n k : Nat} (cs : List Cl) (h : k + cs.length ≤ n) : (cs.all (sndC n) && aheadL k cs) = clsOk k cs := by
  induction cs generalizing k with
  | nil => rfl
  | cons c l ih =>
    rw [List.length_cons] at h
    rw [List.all_cons, aheadL, clsOk, ← clOk_snd (n := n) c (by omega), ← ih (by omega)]
    cases sndC n c <;> cases aheadC k c <;> simp
/-- A good heap is a sound one whose pairs name cells ahead of them. -/
theorem hpOk_snd (h : Hp) : hpOk h = (sndOk h && aheadL 0 h.cells) := by
  unfold hpOk sndOk
  rw [← clsOk_snd (n := h.cells.length) h.cells (by omega)]
  cases aheadL 0 h.cells <;> cases h.cells.all (sndC h.cells.length) <;> simp

theorem hasCell_any (hb : Nat) (o : Option Addr) (n cap : Nat) (r : Int) (w : World) (hc : w.cell? ⟨hb, 1, none⟩ = some (.slice o n cap)) (hn : n ≤ 1048576) :
    Calls Tryd.prog 39 #[.pointer (some ⟨hb, 0, none⟩), .int .i64 r] w fun e w' => e = .returned (.bool (rootOk n r)) ∧ w' = w := by
  unfold rootOk
  by_cases h1 : 0 ≤ r
  · by_cases h2 : r < (n : Int)
    · rw [decide_eq_true h1, decide_eq_true (show r ≤ (n : Int) - 1 by omega)]
      go_enter Tryd.func39, Tryd.ntmps39
      go_wp2
      go_ret
      exact ⟨rfl, rfl⟩
    · rw [decide_eq_true h1, decide_eq_false (show ¬ r ≤ (n : Int) - 1 by omega)]
      go_enter Tryd.func39, Tryd.ntmps39
      go_wp2
      go_ret
      exact ⟨rfl, rfl⟩
  · rw [decide_eq_false h1]
    go_enter Tryd.func39, Tryd.ntmps39
    go_wp2
    go_ret
    exact ⟨rfl, rfl⟩

theorem sndC_leaf (k : Nat) (n a b : Int) : sndC k (true, n, a, b) = (decide (a = 0) && decide (b = 0)) := rfl
theorem sndC_node (k : Nat) (n a b : Int) : sndC k (false, n, a, b) = (decide (n = 0) && (rootOk k a && rootOk k b)) := rfl

set_option maxHeartbeats 1000000 in
set_option maxRecDepth 100000 in
theorem canHold_any (hb : Nat) (o : Option Addr) (k cap : Nat) (c : Cl) (w : World) (hc : w.cell? ⟨hb, 1, none⟩ = some (.slice o k cap)) (hk : k ≤ 1048576) :
    Calls Tryd.prog 80 #[.pointer (some ⟨hb, 0, none⟩), .agg (cellL c).toArray] w fun e w' => e = .returned (.bool (sndC k c)) ∧ Below w.heap.size w w' := by
  obtain ⟨lf, n, a, b⟩ := c
  show Calls Tryd.prog 80 #[.pointer (some ⟨hb, 0, none⟩), .agg #[.bool lf, .int .i64 n, .int .i64 a, .int .i64 b]] w _
  have hB : Below w.heap.size w (w.alloc (.cells #[.bool lf, .int .i64 n, .int .i64 a, .int .i64 b] 99)) := (Below.refl _ _).alloc (Nat.le_refl _) _
  have hbl : hb < w.heap.size := block_lt_of_cell (a := ⟨hb, 1, none⟩) hc
  have hc1 : (w.alloc (.cells #[.bool lf, .int .i64 n, .int .i64 a, .int .i64 b] 99)).cell? ⟨hb, 1, none⟩ = some (.slice o k cap) := (hB.cell (p := ⟨hb, 1, none⟩) hbl).trans hc
  have HA := hideT' (hasCell_any hb o k cap a _ hc1 hk)
  have HBC := hideT' (hasCell_any hb o k cap b _ hc1 hk)
  have HB := hideT' hB
  clear hc hc1 hB hbl
  cases lf with
  | true =>
    rw [sndC_leaf]
    by_cases ha : a = 0
    · by_cases hb : b = 0
      · rw [decide_eq_true ha, decide_eq_true hb]
        subst ha hb
        go_enter Tryd.func80, Tryd.ntmps80
        go_wp2
        go_ret
        exact ⟨rfl, HB.out⟩
      · rw [decide_eq_true ha, decide_eq_false hb]
        subst ha
        have hbb : (b == 0) = false := by simp [hb]
        go_enter Tryd.func80, Tryd.ntmps80
        go_wp2
        go_ret
        exact ⟨rfl, HB.out⟩
    · rw [decide_eq_false ha]
      have hab : (a == 0) = false := by simp [ha]
      go_enter Tryd.func80, Tryd.ntmps80
      go_wp2
      go_ret
      exact ⟨rfl, HB.out⟩
  | false =>
    rw [sndC_node]
    by_cases hn : n = 0
    · rw [decide_eq_true hn]
      subst hn
      obtain ⟨q1, hq1⟩ : ∃ q, q = rootOk k a := ⟨_, rfl⟩
      obtain ⟨q2, hq2⟩ : ∃ q, q = rootOk k b := ⟨_, rfl⟩
      rw [← hq1] at HA ⊢
      rw [← hq2] at HBC ⊢
      clear hq1 hq2
      go_enter Tryd.func80, Tryd.ntmps80
      go_wp2_with fail
      refine HA.out.mono ?_
      rintro e w1 ⟨rfl, rfl⟩
      cases q1 with
      | false =>
        go_wp2
        go_ret
        exact ⟨rfl, HB.out⟩
      | true =>
      go_wp2_with fail
      refine HBC.out.mono ?_
      rintro e w1 ⟨rfl, rfl⟩
      cases q2 with
      | false =>
        go_wp2
        go_ret
        exact ⟨rfl, HB.out⟩
      | true =>
        go_wp2
        go_ret
        exact ⟨rfl, HB.out⟩
    · rw [decide_eq_false hn]
      have hnb : (n == 0) = false := by simp [hn]
      go_enter Tryd.func80, Tryd.ntmps80
      go_wp2
      go_ret
      exact ⟨rfl, HB.out⟩

set_option maxHeartbeats 4000000 in
set_option maxRecDepth 100000 in
theorem isSound_any (m : Hp) (hb : Nat) (v1 v2 : Value) (w : World) (hs : HpSmall m 1048576) (h0 : w.cell? ⟨hb, 0, none⟩ = some (.int .i64 m.old)) (h1 : w.cell? ⟨hb, 1, none⟩ = some v1) (h2 : w.cell? ⟨hb, 2, none⟩ = some v2) (hM : HpRd w v1 v2 m) :
    Calls Tryd.prog 61 #[.pointer (some ⟨hb, 0, none⟩)] w fun e w' => e = .returned (.bool (sndOk m)) ∧ Below w.heap.size w w' := by
  obtain ⟨old, cells, roots⟩ := m
  obtain ⟨s1, s2⟩ := hs
  simp only at s1 s2 h0
  obtain ⟨o1, c1, e1, g1⟩ := hM.1
  obtain ⟨o2, c2, e2, g2⟩ := hM.2
  simp only at e1 e2
  subst e1 e2
  have HG1 := hideT' g1
  have HG2 := hideT' g2
  have HE : Hid (sndOk ⟨old, cells, roots⟩ = (decide (cells.length ≤ 200) && (decide (roots.length ≤ 60) && ((decide (0 ≤ old) && decide (old ≤ (cells.length : Int))) && (cells.all (sndC cells.length) && roots.all (rootOk cells.length)))))) := rfl
  have hzc := zero_cell.1
  have hbl : hb < w.heap.size := block_lt_of_cell (a := ⟨hb, 1, none⟩) h1
  -- what every later world knows
  have HF : Hid (∀ w', Below w.heap.size w w' → (w'.cell? ⟨hb, 0, none⟩ = some (.int .i64 old) ∧ w'.cell? ⟨hb, 1, none⟩ = some (.slice o1 cells.length c1) ∧ w'.cell? ⟨hb, 2, none⟩ = some (.slice o2 roots.length c2))) := fun w' h => ⟨(h.cell (p := ⟨hb, 0, none⟩) hbl).trans h0, (h.cell (p := ⟨hb, 1, none⟩) hbl).trans h1, (h.cell (p := ⟨hb, 2, none⟩) hbl).trans h2⟩
  clear hM g1 g2 hbl
  by_cases h200 : (200 : Int) < (cells.length : Int)
  · have HN : Hid (sndOk ⟨old, cells, roots⟩ = false) := by unfold Hid; rw [HE.out, decide_eq_false (show ¬ cells.length ≤ 200 by omega)]; rfl
    go_enter Tryd.func61, Tryd.ntmps61
    go_wp2_with fail
    go_quiet (fail)
    go_wp2
    go_ret
    exact ⟨by rw [HN.out]; rfl, below_drH (Below.refl _ _) _⟩
  have d200 : decide ((200 : Int) < (cells.length : Int)) = false := decide_eq_false h200
  by_cases h60 : (60 : Int) < (roots.length : Int)
  · have HN : Hid (sndOk ⟨old, cells, roots⟩ = false) := by unfold Hid; rw [HE.out, decide_eq_false (show ¬ roots.length ≤ 60 by omega)]; simp
    go_enter Tryd.func61, Tryd.ntmps61
    go_wp2_with fail
    go_quiet (fail)
    go_wp2
    go_ret
    exact ⟨by rw [HN.out]; rfl, below_drH (Below.refl _ _) _⟩
  have d60 : decide ((60 : Int) < (roots.length : Int)) = false := decide_eq_false h60
  by_cases hold0 : old < 0
  · have HN : Hid (sndOk ⟨old, cells, roots⟩ = false) := by unfold Hid; rw [HE.out, decide_eq_false (show ¬ 0 ≤ old by omega)]; simp
    go_enter Tryd.func61, Tryd.ntmps61
    go_wp2_with fail
    go_quiet (fail)
    go_wp2
    go_ret
    exact ⟨by rw [HN.out]; rfl, below_drH (Below.refl _ _) _⟩
  have d0 : decide (old < (0 : Int)) = false := decide_eq_false hold0
  by_cases hold1 : (cells.length : Int) < old
  · have HN : Hid (sndOk ⟨old, cells, roots⟩ = false) := by unfold Hid; rw [HE.out, decide_eq_false (show ¬ old ≤ (cells.length : Int) by omega)]; simp
    go_enter Tryd.func61, Tryd.ntmps61
    go_wp2_with fail
    go_quiet (fail)
    go_wp2
    go_ret
    exact ⟨by rw [HN.out]; rfl, below_drH (Below.refl _ _) _⟩
  have d1 : decide ((cells.length : Int) < old) = false := decide_eq_false hold1
  have HE2 : Hid (sndOk ⟨old, cells, roots⟩ = (cells.all (sndC cells.length) && roots.all (rootOk cells.length))) := by
    unfold Hid; rw [HE.out, decide_eq_true (show cells.length ≤ 200 by omega), decide_eq_true (show roots.length ≤ 60 by omega), decide_eq_true (show 0 ≤ old by omega), decide_eq_true (show old ≤ (cells.length : Int) by omega)]; rfl
  go_enter Tryd.func61, Tryd.ntmps61
  go_wp2_with fail
  go_quiet (fail)
  go_wp2_with fail
  go_loopg [45] cells.length (fun g i wr => ∃ k : Nat, g = cells.length - k ∧ k ≤ cells.length ∧ i = .int .i64 (k : Int) ∧ Hid (cells.all (sndC cells.length) = (cells.drop k).all (sndC cells.length)) ∧ Below w.heap.size w wr)
  case atStart => exact ⟨0, rfl, by omega, by go_num, rfl, below_drH (Below.refl _ _) _⟩
  case round =>
    clear h0 h1 h2
    obtain ⟨k, hg, hk, rfl, HL, hW⟩ := hrel
    obtain ⟨f0, f1, f2⟩ := HF.out wr hW
    by_cases hlt : (k : Int) < (cells.length : Int)
    · have hk' : k < cells.length := by omega
      obtain ⟨b, hob, hbl, hcl⟩ := HG1.out (by intro e; rw [e] at hk'; simp at hk')
      subst hob
      obtain ⟨d, hd⟩ : ∃ d, d = cells.getD k default := ⟨_, rfl⟩
      have hcl2 : ∀ j u, (cellL d)[j]? = some u → wr.cell? ⟨b, k * 4 + j, none⟩ = some u := fun j u hu => (hW.cell (p := ⟨b, k * 4 + j, none⟩) hbl).trans (hcl k j u hk' (by rw [← hd]; exact hu))
      have hall := sndC_drop (n := cells.length) hk' HL.out
      rw [← hd] at hall
      obtain ⟨lf, n, a, c⟩ := d
      have c0 := hcl2 0 (.bool lf) rfl
      have c1' := hcl2 1 (.int .i64 n) rfl
      have c2' := hcl2 2 (.int .i64 a) rfl
      have c3' := hcl2 3 (.int .i64 c) rfl
      rw [Nat.add_zero] at c0
      have HALL := hideT' hall
      have hWn := hW.alloc hW.size (.cells #[.bool lf, .int .i64 n, .int .i64 a, .int .i64 c] 99)
      have HC := hideT' (canHold_any hb _ cells.length c1 (lf, n, a, c) (wr.alloc (.cells #[.bool lf, .int .i64 n, .int .i64 a, .int .i64 c] 99)) (HF.out _ hWn).2.1 s1)
      have HWN := hideT' hWn
      clear hd hcl hcl2 hall f0 f1 f2 hWn
      go_wp2_with fail
      refine HC.out.mono ?_
      rintro e w2 ⟨rfl, hB2⟩
      have hW2 := HWN.out.trans (hB2.mono HWN.out.size)
      have HW2 := hideT' hW2
      obtain ⟨q, hq⟩ : ∃ q, q = sndC cells.length (lf, n, a, c) := ⟨_, rfl⟩
      rw [← hq]
      have HQ := hideT' hq
      clear hq hB2 hW2
      cases q with
      | false =>
        have HN : Hid (sndOk ⟨old, cells, roots⟩ = false) := by unfold Hid; rw [HE2.out, HALL.out, ← HQ.out]; rfl
        go_wp2
        go_ret
        exact ⟨by rw [HN.out]; rfl, HW2.out⟩
      | true =>
        have HY : Hid (cells.all (sndC cells.length) = (cells.drop (k + 1)).all (sndC cells.length)) := by unfold Hid; rw [HALL.out, ← HQ.out]; rfl
        go_wp2
        go_roundg (cells.length - (k + 1))
        case measure => omega
        case rel => exact ⟨k + 1, rfl, by omega, by go_num, HY, HW2.out⟩
    · have HE3 : Hid (sndOk ⟨old, cells, roots⟩ = roots.all (rootOk cells.length)) := by
        unfold Hid
        rw [HE2.out, HL.out, List.drop_eq_nil_of_le (by omega)]; rfl
      have HWL := hideT' hW
      go_wp2_with fail
      go_loopg [59] roots.length (fun g i wr => ∃ k : Nat, g = roots.length - k ∧ k ≤ roots.length ∧ i = .int .i64 (k : Int) ∧ Hid (roots.all (rootOk cells.length) = (roots.drop k).all (rootOk cells.length)) ∧ Below w.heap.size w wr)
      case atStart => exact ⟨0, rfl, by omega, by go_num, rfl, HWL.out⟩
      case round =>
        clear hW f0 f1 f2
        obtain ⟨j, hg2, hj, rfl, HL2, hW⟩ := hrel
        obtain ⟨f0, f1, f2⟩ := HF.out wr hW
        by_cases hltj : (j : Int) < (roots.length : Int)
        · have hj' : j < roots.length := by omega
          obtain ⟨b, hob, hbl, hcl⟩ := HG2.out (by intro e; rw [e] at hj'; simp at hj')
          subst hob
          obtain ⟨r, hr⟩ : ∃ r, r = roots.getD j default := ⟨_, rfl⟩
          have hcell : wr.cell? ⟨b, j, none⟩ = some (.int .i64 r) := by
            have := hcl j 0 (.int .i64 (roots.getD j default)) hj' rfl
            rw [Nat.mul_one, Nat.add_zero, ← hr] at this
            exact (hW.cell (p := ⟨b, j, none⟩) hbl).trans this
          have hall := rootsOk_drop hj' HL2.out
          rw [← hr] at hall
          have HALL := hideT' hall
          have HC := hideT' (hasCell_any hb o1 cells.length c1 r wr f1 s1)
          have HW := hideT' hW
          clear hr hcl hall f0 f2 f1 hW
          go_wp2_with fail
          refine HC.out.mono ?_
          rintro e w2 ⟨rfl, rfl⟩
          obtain ⟨q1, hq1⟩ : ∃ q, q = rootOk cells.length r := ⟨_, rfl⟩
          rw [← hq1]
          have HQ1 := hideT' hq1
          clear hq1
          cases q1 with
          | false =>
            have HN : Hid (sndOk ⟨old, cells, roots⟩ = false) := by unfold Hid; rw [HE3.out, HALL.out, ← HQ1.out]; rfl
            go_wp2
            go_ret
            exact ⟨by rw [HN.out]; rfl, HW.out⟩
          | true =>
            have HY : Hid (roots.all (rootOk cells.length) = (roots.drop (j + 1)).all (rootOk cells.length)) := by unfold Hid; rw [HALL.out, ← HQ1.out]; rfl
            go_wp2
            go_roundg (roots.length - (j + 1))
            case measure => omega
            case rel => exact ⟨j + 1, rfl, by omega, by go_num, HY, HW.out⟩
        · have HY : Hid (sndOk ⟨old, cells, roots⟩ = true) := by
            unfold Hid
            rw [HE3.out, HL2.out, List.drop_eq_nil_of_le (by omega)]; rfl
          have HW := hideT' hW
          clear hW
          go_wp2
          go_ret
          exact ⟨by rw [HY.out]; rfl, HW.out⟩

set_option maxHeartbeats 4000000 in
set_option maxRecDepth 100000 in
theorem implGoodHeap_any (m : Hp) (v1 v2 : Value) (w : World) (hs : HpSmall m 1048576) (hM : HpRd w v1 v2 m) :
    Calls Tryd.prog 53 #[.agg #[.int .i64 m.old, v1, v2]] w fun e w' => e = .returned (.bool (hpOk m)) ∧ Below w.heap.size w w' := by
  have hB : Below w.heap.size w (w.alloc (.cells #[.int .i64 m.old, v1, v2] 50)) := (Below.refl _ _).alloc (Nat.le_refl _) _
  have hR := RowAt.new w 50 #[.int .i64 m.old, v1, v2]
  have hM1 := hM.below hB
  have HS := hideT' (isSound_any m w.heap.size v1 v2 _ hs (by rw [cell_of_row _ _ _ _ _ _ hR]; rfl) (by rw [cell_of_row _ _ _ _ _ _ hR]; rfl) (by rw [cell_of_row _ _ _ _ _ _ hR]; rfl) hM1)
  have HP := hideT' (hpOk_snd m)
  obtain ⟨old, cells, roots⟩ := m
  obtain ⟨s1, s2⟩ := hs
  simp only at s1 s2
  obtain ⟨o1, c1, e1, g1⟩ := hM.1
  obtain ⟨o2, c2, e2, g2⟩ := hM.2
  simp only at e1 e2 HS
  subst e1 e2
  have HG1 := hideT' g1
  have hzc := zero_cell.1
  -- what every later world knows
  have HF : Hid (∀ w', Below (w.heap.size + 1) (w.alloc (.cells #[.int .i64 old, .slice o1 cells.length c1, .slice o2 roots.length c2] 50)) w' → (w'.cell? ⟨w.heap.size, 1, none⟩ = some (.slice o1 cells.length c1)) ∧ Below w.heap.size w w' ∧ w.heap.size + 1 ≤ w'.heap.size) := by
    intro w' h
    have hr := RowAt.below hR h (by omega)
    refine ⟨?_, hB.trans (h.mono (by omega)), by have := h.size; simpa using this⟩
    rw [cell_of_row w' _ _ _ _ _ hr]; rfl
  clear hM hM1 g1 g2 hB hR
  go_enter Tryd.func53, Tryd.ntmps53
  go_wp2_with fail
  refine HS.out.mono ?_
  rintro e w1 ⟨rfl, hB1⟩
  simp only [World.size_alloc] at hB1
  obtain ⟨q, hq⟩ : ∃ q, q = sndOk ⟨old, cells, roots⟩ := ⟨_, rfl⟩
  rw [← hq] at HP ⊢
  clear hq
  cases q with
  | false =>
    have HT := hideT' (HF.out _ hB1).2.1
    have HN : Hid (hpOk ⟨old, cells, roots⟩ = false) := by unfold Hid; rw [HP.out]; rfl
    clear hB1
    go_wp2
    go_ret
    exact ⟨by rw [HN.out]; rfl, HT.out⟩
  | true =>
  have HE : Hid (hpOk ⟨old, cells, roots⟩ = aheadL 0 cells) := by unfold Hid; rw [HP.out]; rfl
  have f1 := (HF.out _ hB1).1
  have HB1 := hideT' hB1
  clear hB1
  go_wp2_with fail
  go_loopg [10] cells.length (fun g i wr => ∃ k : Nat, g = cells.length - k ∧ k ≤ cells.length ∧ i = .int .i64 (k : Int) ∧ Hid (aheadL 0 cells = aheadL k (cells.drop k)) ∧ Below (w.heap.size + 1) (w.alloc (.cells #[.int .i64 old, .slice o1 cells.length c1, .slice o2 roots.length c2] 50)) wr)
  case atStart => exact ⟨0, rfl, by omega, by go_num, rfl, HB1.out⟩
  case round =>
    clear f1
    obtain ⟨k, hg, hk, rfl, HL, hW⟩ := hrel
    obtain ⟨f1, hT, hsz⟩ := HF.out wr hW
    by_cases hlt : (k : Int) < (cells.length : Int)
    · have hk' : k < cells.length := by omega
      obtain ⟨b, hob, hbl, hcl⟩ := HG1.out (by intro e; rw [e] at hk'; simp at hk')
      subst hob
      obtain ⟨d, hd⟩ : ∃ d, d = cells.getD k default := ⟨_, rfl⟩
      have hcl2 : ∀ j u, (cellL d)[j]? = some u → wr.cell? ⟨b, k * 4 + j, none⟩ = some u := fun j u hu => (hT.cell (p := ⟨b, k * 4 + j, none⟩) hbl).trans (hcl k j u hk' (by rw [← hd]; exact hu))
      have hall := aheadL_drop hk' HL.out
      rw [← hd] at hall
      obtain ⟨lf, n, a, c⟩ := d
      have c0 := hcl2 0 (.bool lf) rfl
      have c1' := hcl2 1 (.int .i64 n) rfl
      have c2' := hcl2 2 (.int .i64 a) rfl
      have c3' := hcl2 3 (.int .i64 c) rfl
      rw [Nat.add_zero] at c0
      have hWn := hW.alloc hsz (.cells #[.bool lf, .int .i64 n, .int .i64 a, .int .i64 c] 99)
      have HTN := hideT' (HF.out _ hWn).2.1
      have HWN := hideT' hWn
      obtain ⟨q, hq⟩ : ∃ q, q = aheadC k (lf, n, a, c) := ⟨_, rfl⟩
      rw [← hq] at hall
      have HALL := hideT' hall
      clear hd hcl hcl2 hall f1 hWn hW hT
      cases q with
      | false =>
        obtain ⟨hlf, hmx⟩ : lf = false ∧ (k : Int) ≤ max a c := by
          unfold aheadC at hq
          cases lf
          · simp only [Bool.false_or] at hq; have := of_decide_eq_false hq.symm; exact ⟨rfl, by omega⟩
          · simp at hq
        subst hlf
        have HN : Hid (hpOk ⟨old, cells, roots⟩ = false) := by unfold Hid; rw [HE.out, HALL.out]; rfl
        clear hq
        by_cases hac : a < c
        · have hkc : (k : Int) ≤ c := by omega
          clear hmx
          go_wp2
          go_ret
          exact ⟨by rw [HN.out]; rfl, HTN.out⟩
        · have hkc : (k : Int) ≤ a := by omega
          clear hmx
          go_wp2
          go_ret
          exact ⟨by rw [HN.out]; rfl, HTN.out⟩
      | true =>
        have HY : Hid (aheadL 0 cells = aheadL (k + 1) (cells.drop (k + 1))) := by unfold Hid; rw [HALL.out]; rfl
        cases lf with
        | true =>
          clear hq
          go_wp2
          go_roundg (cells.length - (k + 1))
          case measure => omega
          case rel => exact ⟨k + 1, rfl, by omega, by go_num, HY, HWN.out⟩
        | false =>
          have hmx : max a c < (k : Int) := by
            unfold aheadC at hq
            simp only [Bool.false_or] at hq
            exact of_decide_eq_true hq.symm
          clear hq
          by_cases hac : a < c
          · have hkc : c < (k : Int) := by omega
            clear hmx
            go_wp2
            go_roundg (cells.length - (k + 1))
            case measure => omega
            case rel => exact ⟨k + 1, rfl, by omega, by go_num, HY, HWN.out⟩
          · have hkc : a < (k : Int) := by omega
            clear hmx
            go_wp2
            go_roundg (cells.length - (k + 1))
            case measure => omega
            case rel => exact ⟨k + 1, rfl, by omega, by go_num, HY, HWN.out⟩
    · have HY : Hid (hpOk ⟨old, cells, roots⟩ = true) := by
        unfold Hid
        rw [HE.out, HL.out, List.drop_eq_nil_of_le (by omega)]; rfl
      have HT := hideT' hT
      clear hT hW
      go_wp2
      go_ret
      exact ⟨by rw [HY.out]; rfl, HT.out⟩
end Go.Proofs.YtelciainidklgaaDoor
