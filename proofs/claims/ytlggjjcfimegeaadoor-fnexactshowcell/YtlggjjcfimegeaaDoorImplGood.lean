/-
  What impl.GoodHeap answers.
-/
import Derived.Test.YtlggjjcfimegeaaDoorSpecHeap
namespace Go.Proofs.YtlggjjcfimegeaaDoor
open Go.RowKit
set_option linter.unusedVariables false

theorem clOk_leaf (k : Nat) (n a b : Int) : clOk k (true, n, a, b) = (decide (a = 0) && decide (b = 0)) := rfl
theorem clOk_node (k : Nat) (n a b : Int) : clOk k (false, n, a, b) = (decide (n = 0) && ((decide (0 ≤ a) && decide (a ≤ (k : Int) - 1)) && (decide (0 ≤ b) && decide (b ≤ (k : Int) - 1)))) := rfl

set_option maxHeartbeats 1000000 in
set_option maxRecDepth 100000 in
theorem isGood_any (c : Cl) (k : Nat) (w : World) :
    Calls Tryd.prog 36 #[.agg (cellL c).toArray, .int .i64 (k : Int)] w fun e w' => e = .returned (.bool (clOk k c)) ∧ Below w.heap.size w w' := by
  obtain ⟨lf, n, a, b⟩ := c
  show Calls Tryd.prog 36 #[.agg #[.bool lf, .int .i64 n, .int .i64 a, .int .i64 b], .int .i64 (k : Int)] w _
  have hB : Below w.heap.size w (w.alloc (.cells #[.bool lf, .int .i64 n, .int .i64 a, .int .i64 b] 70)) := (Below.refl _ _).alloc (Nat.le_refl _) _
  cases lf with
  | true =>
    rw [clOk_leaf]
    by_cases ha : a = 0
    · by_cases hb : b = 0
      · rw [decide_eq_true ha, decide_eq_true hb]
        subst ha hb
        go_enter Tryd.func36, Tryd.ntmps36
        go_wp2
        go_ret
        exact ⟨rfl, hB⟩
      · rw [decide_eq_true ha, decide_eq_false hb]
        subst ha
        have hbb : (b == 0) = false := by simp [hb]
        go_enter Tryd.func36, Tryd.ntmps36
        go_wp2
        go_ret
        exact ⟨rfl, hB⟩
    · rw [decide_eq_false ha]
      have hab : (a == 0) = false := by simp [ha]
      go_enter Tryd.func36, Tryd.ntmps36
      go_wp2
      go_ret
      exact ⟨rfl, hB⟩
  | false =>
    rw [clOk_node]
    by_cases hn : n = 0
    · rw [decide_eq_true hn]
      subst hn
      by_cases h1 : 0 ≤ a
      · by_cases h2 : a < (k : Int)
        · rw [decide_eq_true h1, decide_eq_true (show a ≤ (k : Int) - 1 by omega)]
          by_cases h3 : 0 ≤ b
          · by_cases h4 : b < (k : Int)
            · rw [decide_eq_true h3, decide_eq_true (show b ≤ (k : Int) - 1 by omega)]
              go_enter Tryd.func36, Tryd.ntmps36
              go_wp2
              go_ret
              exact ⟨rfl, hB⟩
            · rw [decide_eq_true h3, decide_eq_false (show ¬ b ≤ (k : Int) - 1 by omega)]
              go_enter Tryd.func36, Tryd.ntmps36
              go_wp2
              go_ret
              exact ⟨rfl, hB⟩
          · rw [decide_eq_false h3]
            go_enter Tryd.func36, Tryd.ntmps36
            go_wp2
            go_ret
            exact ⟨rfl, hB⟩
        · rw [decide_eq_true h1, decide_eq_false (show ¬ a ≤ (k : Int) - 1 by omega)]
          go_enter Tryd.func36, Tryd.ntmps36
          go_wp2
          go_ret
          exact ⟨rfl, hB⟩
      · rw [decide_eq_false h1]
        go_enter Tryd.func36, Tryd.ntmps36
        go_wp2
        go_ret
        exact ⟨rfl, hB⟩
    · rw [decide_eq_false hn]
      have hnb : (n == 0) = false := by simp [hn]
      go_enter Tryd.func36, Tryd.ntmps36
      go_wp2
      go_ret
      exact ⟨rfl, hB⟩

theorem hasCell_any (hb : Nat) (o : Option Addr) (n cap : Nat) (r : Int) (w : World) (hc : w.cell? ⟨hb, 1, none⟩ = some (.slice o n cap)) (hn : n ≤ 1048576) :
    Calls Tryd.prog 26 #[.pointer (some ⟨hb, 0, none⟩), .int .i64 r] w fun e w' => e = .returned (.bool (rootOk n r)) ∧ w' = w := by
  unfold rootOk
  by_cases h1 : 0 ≤ r
  · by_cases h2 : r < (n : Int)
    · rw [decide_eq_true h1, decide_eq_true (show r ≤ (n : Int) - 1 by omega)]
      go_enter Tryd.func26, Tryd.ntmps26
      go_wp2
      go_ret
      exact ⟨rfl, rfl⟩
    · rw [decide_eq_true h1, decide_eq_false (show ¬ r ≤ (n : Int) - 1 by omega)]
      go_enter Tryd.func26, Tryd.ntmps26
      go_wp2
      go_ret
      exact ⟨rfl, rfl⟩
  · rw [decide_eq_false h1]
    go_enter Tryd.func26, Tryd.ntmps26
    go_wp2
    go_ret
    exact ⟨rfl, rfl⟩

set_option maxHeartbeats 4000000 in
set_option maxRecDepth 100000 in
theorem implGoodHeap_any (m : Hp) (v1 v2 : Value) (w : World) (hs : HpSmall m 1048576) (hM : HpRd w v1 v2 m) :
    Calls Tryd.prog 25 #[.agg #[.int .i64 m.old, v1, v2]] w fun e w' => e = .returned (.bool (hpOk m)) ∧ Below w.heap.size w w' := by
  obtain ⟨old, cells, roots⟩ := m
  obtain ⟨s1, s2⟩ := hs
  simp only at s1 s2
  obtain ⟨o1, c1, e1, g1⟩ := hM.1
  obtain ⟨o2, c2, e2, g2⟩ := hM.2
  simp only at e1 e2
  subst e1 e2
  have HG1 := hideT' g1
  have HG2 := hideT' g2
  have HE : Hid (hpOk ⟨old, cells, roots⟩ = (decide (cells.length ≤ 200) && (decide (roots.length ≤ 60) && ((decide (0 ≤ old) && decide (old ≤ (cells.length : Int))) && (clsOk 0 cells && roots.all (rootOk cells.length)))))) := rfl
  have hB : Below w.heap.size w (w.alloc (.cells #[.int .i64 old, .slice o1 cells.length c1, .slice o2 roots.length c2] 31)) := (Below.refl _ _).alloc (Nat.le_refl _) _
  have hzc := zero_cell.1
  -- what every later world knows
  have HF : Hid (∀ w', Below (w.heap.size + 1) (w.alloc (.cells #[.int .i64 old, .slice o1 cells.length c1, .slice o2 roots.length c2] 31)) w' → (w'.cell? ⟨w.heap.size, 0, none⟩ = some (.int .i64 old) ∧ w'.cell? ⟨w.heap.size, 1, none⟩ = some (.slice o1 cells.length c1) ∧ w'.cell? ⟨w.heap.size, 2, none⟩ = some (.slice o2 roots.length c2)) ∧ Below w.heap.size w w' ∧ w.heap.size + 1 ≤ w'.heap.size) := by
    intro w' h
    have hr := RowAt.below (RowAt.new w 31 #[.int .i64 old, .slice o1 cells.length c1, .slice o2 roots.length c2]) h (by omega)
    refine ⟨⟨?_, ?_, ?_⟩, hB.trans (h.mono (by omega)), by have := h.size; simpa using this⟩ <;> (rw [cell_of_row w' _ _ _ _ _ hr]; rfl)
  clear hM g1 g2
  by_cases h200 : (200 : Int) < (cells.length : Int)
  · have HN : Hid (hpOk ⟨old, cells, roots⟩ = false) := by unfold Hid; rw [HE.out, decide_eq_false (show ¬ cells.length ≤ 200 by omega)]; rfl
    go_enter Tryd.func25, Tryd.ntmps25
    go_wp2
    go_ret
    exact ⟨by rw [HN.out]; rfl, hB⟩
  by_cases h60 : (60 : Int) < (roots.length : Int)
  · have HN : Hid (hpOk ⟨old, cells, roots⟩ = false) := by unfold Hid; rw [HE.out, decide_eq_false (show ¬ roots.length ≤ 60 by omega)]; simp
    go_enter Tryd.func25, Tryd.ntmps25
    go_wp2
    go_ret
    exact ⟨by rw [HN.out]; rfl, hB⟩
  by_cases hold0 : old < 0
  · have HN : Hid (hpOk ⟨old, cells, roots⟩ = false) := by unfold Hid; rw [HE.out, decide_eq_false (show ¬ 0 ≤ old by omega)]; simp
    go_enter Tryd.func25, Tryd.ntmps25
    go_wp2
    go_ret
    exact ⟨by rw [HN.out]; rfl, hB⟩
  by_cases hold1 : (cells.length : Int) < old
  · have HN : Hid (hpOk ⟨old, cells, roots⟩ = false) := by unfold Hid; rw [HE.out, decide_eq_false (show ¬ old ≤ (cells.length : Int) by omega)]; simp
    go_enter Tryd.func25, Tryd.ntmps25
    go_wp2
    go_ret
    exact ⟨by rw [HN.out]; rfl, hB⟩
  have HE2 : Hid (hpOk ⟨old, cells, roots⟩ = (clsOk 0 cells && roots.all (rootOk cells.length))) := by
    unfold Hid; rw [HE.out, decide_eq_true (show cells.length ≤ 200 by omega), decide_eq_true (show roots.length ≤ 60 by omega), decide_eq_true (show 0 ≤ old by omega), decide_eq_true (show old ≤ (cells.length : Int) by omega)]; rfl
  go_enter Tryd.func25, Tryd.ntmps25
  go_wp2_with fail
  go_loopg [33] cells.length (fun g i wr => ∃ k : Nat, g = cells.length - k ∧ k ≤ cells.length ∧ i = .int .i64 (k : Int) ∧ Hid (clsOk 0 cells = clsOk k (cells.drop k)) ∧ Below (w.heap.size + 1) (w.alloc (.cells #[.int .i64 old, .slice o1 cells.length c1, .slice o2 roots.length c2] 31)) wr)
  case atStart => exact ⟨0, rfl, by omega, by go_num, rfl, Below.refl _ _⟩
  case round =>
    obtain ⟨k, hg, hk, rfl, HL, hW⟩ := hrel
    obtain ⟨⟨f0, f1, f2⟩, hT, hsz⟩ := HF.out wr hW
    by_cases hlt : (k : Int) < (cells.length : Int)
    · have hk' : k < cells.length := by omega
      obtain ⟨b, hob, hbl, hcl⟩ := HG1.out (by intro e; rw [e] at hk'; simp at hk')
      subst hob
      obtain ⟨d, hd⟩ : ∃ d, d = cells.getD k default := ⟨_, rfl⟩
      have hcl2 : ∀ j u, (cellL d)[j]? = some u → wr.cell? ⟨b, k * 4 + j, none⟩ = some u := fun j u hu => (hT.cell (p := ⟨b, k * 4 + j, none⟩) hbl).trans (hcl k j u hk' (by rw [← hd]; exact hu))
      have hall := clsOk_drop hk' HL.out
      rw [← hd] at hall
      obtain ⟨lf, n, a, c⟩ := d
      have c0 := hcl2 0 (.bool lf) rfl
      have c1' := hcl2 1 (.int .i64 n) rfl
      have c2' := hcl2 2 (.int .i64 a) rfl
      have c3' := hcl2 3 (.int .i64 c) rfl
      rw [Nat.add_zero] at c0
      have HALL := hideT' hall
      have hWn := hW.alloc (by simpa using hsz) (.cells #[.bool lf, .int .i64 n, .int .i64 a, .int .i64 c] 70)
      have HC := hideT' (isGood_any (lf, n, a, c) k (wr.alloc (.cells #[.bool lf, .int .i64 n, .int .i64 a, .int .i64 c] 70)))
      clear hd hcl hcl2 hall f0 f1 f2
      go_wp2_with fail
      refine HC.out.mono ?_
      rintro e w2 ⟨rfl, hB2⟩
      have hW2 := hWn.trans (hB2.mono (by simp; omega))
      have HT2 := hideT' (HF.out _ hW2).2.1
      obtain ⟨q, hq⟩ : ∃ q, q = clOk k (lf, n, a, c) := ⟨_, rfl⟩
      rw [← hq]
      have HQ := hideT' hq
      clear hq
      cases q with
      | false =>
        have HN : Hid (hpOk ⟨old, cells, roots⟩ = false) := by unfold Hid; rw [HE2.out, HALL.out, ← HQ.out]; rfl
        go_wp2
        go_ret
        exact ⟨by rw [HN.out]; rfl, HT2.out⟩
      | true =>
        have HY : Hid (clsOk 0 cells = clsOk (k + 1) (cells.drop (k + 1))) := by unfold Hid; rw [HALL.out, ← HQ.out]; rfl
        go_wp2
        go_roundg (cells.length - (k + 1))
        case measure => omega
        case rel => exact ⟨k + 1, rfl, by omega, by go_num, HY, hW2⟩
    · have HE3 : Hid (hpOk ⟨old, cells, roots⟩ = roots.all (rootOk cells.length)) := by
        unfold Hid
        rw [HE2.out, HL.out, List.drop_eq_nil_of_le (by omega)]; rfl
      have hWl := hW
      go_wp2_with fail
      go_loopg [46] roots.length (fun g i wr => ∃ k : Nat, g = roots.length - k ∧ k ≤ roots.length ∧ i = .int .i64 (k : Int) ∧ Hid (roots.all (rootOk cells.length) = (roots.drop k).all (rootOk cells.length)) ∧ Below (w.heap.size + 1) (w.alloc (.cells #[.int .i64 old, .slice o1 cells.length c1, .slice o2 roots.length c2] 31)) wr)
      case atStart => exact ⟨0, rfl, by omega, by go_num, rfl, hWl⟩
      case round =>
        clear hWl hW hT hsz f0 f1 f2
        obtain ⟨j, hg2, hj, rfl, HL2, hW⟩ := hrel
        obtain ⟨⟨f0, f1, f2⟩, hT, hsz⟩ := HF.out wr hW
        by_cases hltj : (j : Int) < (roots.length : Int)
        · have hj' : j < roots.length := by omega
          obtain ⟨b, hob, hbl, hcl⟩ := HG2.out (by intro e; rw [e] at hj'; simp at hj')
          subst hob
          obtain ⟨r, hr⟩ : ∃ r, r = roots.getD j default := ⟨_, rfl⟩
          have hcell : wr.cell? ⟨b, j, none⟩ = some (.int .i64 r) := by
            have := hcl j 0 (.int .i64 (roots.getD j default)) hj' rfl
            rw [Nat.mul_one, Nat.add_zero, ← hr] at this
            exact (hT.cell (p := ⟨b, j, none⟩) hbl).trans this
          have hall := rootsOk_drop hj' HL2.out
          rw [← hr] at hall
          have HALL := hideT' hall
          have HC := hideT' (hasCell_any w.heap.size o1 cells.length c1 r wr f1 s1)
          clear hr hcl hall f0 f2 f1
          go_wp2_with fail
          refine HC.out.mono ?_
          rintro e w2 ⟨rfl, rfl⟩
          obtain ⟨q1, hq1⟩ : ∃ q, q = rootOk cells.length r := ⟨_, rfl⟩
          rw [← hq1]
          have HQ1 := hideT' hq1
          clear hq1
          cases q1 with
          | false =>
            have HN : Hid (hpOk ⟨old, cells, roots⟩ = false) := by unfold Hid; rw [HE3.out, HALL.out, ← HQ1.out]; rfl
            go_wp2
            go_ret
            exact ⟨by rw [HN.out]; rfl, hT⟩
          | true =>
            have HY : Hid (roots.all (rootOk cells.length) = (roots.drop (j + 1)).all (rootOk cells.length)) := by unfold Hid; rw [HALL.out, ← HQ1.out]; rfl
            go_wp2
            go_roundg (roots.length - (j + 1))
            case measure => omega
            case rel => exact ⟨j + 1, rfl, by omega, by go_num, HY, hW⟩
        · have HY : Hid (hpOk ⟨old, cells, roots⟩ = true) := by
            unfold Hid
            rw [HE3.out, HL2.out, List.drop_eq_nil_of_le (by omega)]; rfl
          go_wp2
          go_ret
          exact ⟨by rw [HY.out]; rfl, hT⟩
end Go.Proofs.YtlggjjcfimegeaaDoor
