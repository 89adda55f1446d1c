/-
  What spec.GoodHeap answers.
-/
import Derived.Test.YtelciainidklgaaDoorHeapLaw
import Derived.Test.YtelciainidklgaaDoorL1In
namespace Go.Proofs.YtelciainidklgaaDoor
open Go.RowKit
set_option linter.unusedVariables false

/-- A cell that is good at its place. -/
def clOk (i : Nat) (c : Cl) : Bool := if c.1 then decide (c.2.2.1 = 0) && decide (c.2.2.2 = 0) else decide (c.2.1 = 0) && ((decide (0 ≤ c.2.2.1) && decide (c.2.2.1 ≤ (i : Int) - 1)) && (decide (0 ≤ c.2.2.2) && decide (c.2.2.2 ≤ (i : Int) - 1)))
def clsOk : Nat → List Cl → Bool
  | _, [] => true
  | k, c :: l => clOk k c && clsOk (k + 1) l
def rootOk (n : Nat) (r : Int) : Bool := decide (0 ≤ r) && decide (r ≤ (n : Int) - 1)
/-- A good heap. -/
def hpOk (h : Hp) : Bool := decide (h.cells.length ≤ 200) && (decide (h.roots.length ≤ 60) && ((decide (0 ≤ h.old) && decide (h.old ≤ (h.cells.length : Int))) && (clsOk 0 h.cells && h.roots.all (rootOk h.cells.length))))
theorem clsOk_drop {cs : List Cl} {k : Nat} (hk : k < cs.length) (h : clsOk 0 cs = clsOk k (cs.drop k)) : clsOk 0 cs = (clOk k (cs.getD k default) && clsOk (k + 1) (cs.drop (k + 1))) := by
  have : cs.getD k default = cs[k] := by simp [List.getD, List.getElem?_eq_getElem hk]
  rw [h, this, List.drop_eq_getElem_cons hk]; rfl
theorem rootsOk_drop {n : Nat} {rs : List Int} {k : Nat} (hk : k < rs.length) (h : rs.all (rootOk n) = (rs.drop k).all (rootOk n)) : rs.all (rootOk n) = (rootOk n (rs.getD k default) && (rs.drop (k + 1)).all (rootOk n)) := by
  have : rs.getD k default = rs[k] := by simp [List.getD, List.getElem?_eq_getElem hk]
  rw [h, this, List.drop_eq_getElem_cons hk, List.all_cons]

set_option maxHeartbeats 4000000 in
set_option maxRecDepth 100000 in
theorem specGoodHeap_any (m : Hp) (v1 v2 : Value) (w : World) (hs : HpSmall m 1048576) (hM : HpRd w v1 v2 m) :
    Calls Tryd.prog 51 #[.agg #[.int .i64 m.old, v1, v2]] w fun e w' => e = .returned (.bool (hpOk m)) ∧ Below w.heap.size w w' := by
  obtain ⟨old, cells, roots⟩ := m
  obtain ⟨s1, s2⟩ := hs
  simp only at s1 s2
  obtain ⟨o1, c1, e1, g1⟩ := hM.1
  obtain ⟨o2, c2, e2, g2⟩ := hM.2
  simp only at e1 e2
  subst e1 e2
  have HG1 := hideT' g1
  have HG2 := hideT' g2
  have HE : Hid (hpOk ⟨old, cells, roots⟩ = (decide (cells.length ≤ 200) && (decide (roots.length ≤ 60) && ((decide (0 ≤ old) && decide (old ≤ (cells.length : Int))) && (clsOk 0 cells && roots.all (rootOk cells.length)))))) := rfl
  have hB : Below w.heap.size w (w.alloc (.cells #[.int .i64 old, .slice o1 cells.length c1, .slice o2 roots.length c2] 50)) := (Below.refl _ _).alloc (Nat.le_refl _) _
  have hzc := zero_cell.1
  -- what every later world knows
  have HF : Hid (∀ w', Below (w.heap.size + 1) (w.alloc (.cells #[.int .i64 old, .slice o1 cells.length c1, .slice o2 roots.length c2] 50)) w' → (w'.cell? ⟨w.heap.size, 0, none⟩ = some (.int .i64 old) ∧ w'.cell? ⟨w.heap.size, 1, none⟩ = some (.slice o1 cells.length c1) ∧ w'.cell? ⟨w.heap.size, 2, none⟩ = some (.slice o2 roots.length c2)) ∧ Below w.heap.size w w' ∧ w.heap.size + 1 ≤ w'.heap.size) := by
    intro w' h
    have hr := RowAt.below (RowAt.new w 50 #[.int .i64 old, .slice o1 cells.length c1, .slice o2 roots.length c2]) h (by omega)
    refine ⟨⟨?_, ?_, ?_⟩, hB.trans (h.mono (by omega)), by have := h.size; simpa using this⟩ <;> (rw [cell_of_row w' _ _ _ _ _ hr]; rfl)
  clear hM g1 g2
  by_cases h200 : (200 : Int) < (cells.length : Int)
  · have HN : Hid (hpOk ⟨old, cells, roots⟩ = false) := by unfold Hid; rw [HE.out, decide_eq_false (show ¬ cells.length ≤ 200 by omega)]; rfl
    go_enter Tryd.func51, Tryd.ntmps51
    go_wp2
    go_ret
    exact ⟨by rw [HN.out]; rfl, hB⟩
  by_cases h60 : (60 : Int) < (roots.length : Int)
  · have HN : Hid (hpOk ⟨old, cells, roots⟩ = false) := by unfold Hid; rw [HE.out, decide_eq_false (show ¬ roots.length ≤ 60 by omega)]; simp
    go_enter Tryd.func51, Tryd.ntmps51
    go_wp2
    go_ret
    exact ⟨by rw [HN.out]; rfl, hB⟩
  go_enter Tryd.func51, Tryd.ntmps51
  go_wp2_with fail
  refine (l1In_any old 0 (cells.length : Int) _).mono ?_
  rintro e w1 ⟨rfl, rfl⟩
  obtain ⟨q, hq⟩ : ∃ q, q = (decide ((0 : Int) ≤ old) && decide (old ≤ (cells.length : Int))) := ⟨_, rfl⟩
  rw [← hq]
  have HQ := hideT' hq
  clear hq
  cases q with
  | false =>
    have HN : Hid (hpOk ⟨old, cells, roots⟩ = false) := by unfold Hid; rw [HE.out, ← HQ.out]; simp
    go_wp2
    go_ret
    exact ⟨by rw [HN.out]; rfl, hB⟩
  | true =>
  have HE2 : Hid (hpOk ⟨old, cells, roots⟩ = (clsOk 0 cells && roots.all (rootOk cells.length))) := by
    unfold Hid; rw [HE.out, ← HQ.out, decide_eq_true (show cells.length ≤ 200 by omega), decide_eq_true (show roots.length ≤ 60 by omega)]; rfl
  go_wp2_with fail
  go_loopg [29] cells.length (fun g i wr => ∃ k : Nat, g = cells.length - k ∧ k ≤ cells.length ∧ i = .int .i64 (k : Int) ∧ Hid (clsOk 0 cells = clsOk k (cells.drop k)) ∧ Below (w.heap.size + 1) (w.alloc (.cells #[.int .i64 old, .slice o1 cells.length c1, .slice o2 roots.length c2] 50)) wr)
  case atStart => exact ⟨0, rfl, by omega, by go_num, rfl, Below.refl _ _⟩
  case round =>
    obtain ⟨k, hg, hk, rfl, HL, hW⟩ := hrel
    obtain ⟨⟨f0, f1, f2⟩, hT, hsz⟩ := HF.out wr hW
    by_cases hlt : (k : Int) < (cells.length : Int)
    · have hk' : k < cells.length := by omega
      obtain ⟨b, hob, hbl, hcl⟩ := HG1.out (by intro e; rw [e] at hk'; simp at hk')
      subst hob
      obtain ⟨d, hd⟩ : ∃ d, d = cells.getD k default := ⟨_, rfl⟩
      have hcl2 : ∀ j u, (cellL d)[j]? = some u → wr.cell? ⟨b, k * 4 + j, none⟩ = some u := fun j u hu => (hT.cell (p := ⟨b, k * 4 + j, none⟩) hbl).trans (hcl k j u hk' (by rw [← hd]; exact hu))
      have hall := clsOk_drop hk' HL.out
      rw [← hd] at hall
      obtain ⟨lf, n, a, c⟩ := d
      have c0 := hcl2 0 (.bool lf) rfl
      have c1' := hcl2 1 (.int .i64 n) rfl
      have c2' := hcl2 2 (.int .i64 a) rfl
      have c3' := hcl2 3 (.int .i64 c) rfl
      rw [Nat.add_zero] at c0
      have HALL := hideT' hall
      have HNO : Hid (clOk k (lf, n, a, c) = false → hpOk ⟨old, cells, roots⟩ = false) := fun h => by rw [HE2.out, HALL.out, h]; rfl
      have HYES : Hid (clOk k (lf, n, a, c) = true → clsOk 0 cells = clsOk (k + 1) (cells.drop (k + 1))) := fun h => by rw [HALL.out, h]; rfl
      have hWn := hW.alloc (by simpa using hsz) (.cells #[.bool lf, .int .i64 n, .int .i64 a, .int .i64 c] 99)
      have HTn := hideT' (HF.out _ hWn).2.1
      clear hd hcl hcl2 hall f0 f1 f2
      cases lf with
      | true =>
        by_cases ha : a = 0
        · subst ha
          by_cases hc : c = 0
          · subst hc
            have HY := hideT' (HYES.out (by simp [clOk]))
            go_wp2
            go_roundg (cells.length - (k + 1))
            case measure => omega
            case rel => exact ⟨k + 1, rfl, by omega, by go_num, HY, hWn⟩
          · have hcb : (c != 0) = true := by simp [hc]
            have HN := hideT' (HNO.out (by simp [clOk, hc]))
            go_wp2
            go_ret
            exact ⟨by rw [HN.out]; rfl, HTn.out⟩
        · have hab : (a != 0) = true := by simp [ha]
          have HN := hideT' (HNO.out (by simp [clOk, ha]))
          go_wp2
          go_ret
          exact ⟨by rw [HN.out]; rfl, HTn.out⟩
      | false =>
        by_cases hn : n = 0
        · subst hn
          go_wp2_with fail
          refine (l1In_any a 0 ((k : Int) - 1) _).mono ?_
          rintro e w2 ⟨rfl, rfl⟩
          obtain ⟨q1, hq1⟩ : ∃ q, q = (decide ((0 : Int) ≤ a) && decide (a ≤ (k : Int) - 1)) := ⟨_, rfl⟩
          rw [← hq1]
          have HQ1 := hideT' hq1
          clear hq1
          cases q1 with
          | false =>
            have HN := hideT' (HNO.out (by unfold clOk; simp only; rw [← HQ1.out]; simp))
            go_wp2
            go_ret
            exact ⟨by rw [HN.out]; rfl, HTn.out⟩
          | true =>
          go_wp2_with fail
          refine (l1In_any c 0 ((k : Int) - 1) _).mono ?_
          rintro e w3 ⟨rfl, rfl⟩
          obtain ⟨q2, hq2⟩ : ∃ q, q = (decide ((0 : Int) ≤ c) && decide (c ≤ (k : Int) - 1)) := ⟨_, rfl⟩
          rw [← hq2]
          have HQ2 := hideT' hq2
          clear hq2
          cases q2 with
          | false =>
            have HN := hideT' (HNO.out (by unfold clOk; simp only; rw [← HQ1.out, ← HQ2.out]; simp))
            go_wp2
            go_ret
            exact ⟨by rw [HN.out]; rfl, HTn.out⟩
          | true =>
            have HY := hideT' (HYES.out (by unfold clOk; simp only; rw [← HQ1.out, ← HQ2.out]; simp))
            go_wp2
            go_roundg (cells.length - (k + 1))
            case measure => omega
            case rel => exact ⟨k + 1, rfl, by omega, by go_num, HY, hWn⟩
        · have hnb : (n != 0) = true := by simp [hn]
          have HN := hideT' (HNO.out (by simp [clOk, hn]))
          go_wp2
          go_ret
          exact ⟨by rw [HN.out]; rfl, HTn.out⟩
    · have HE3 : Hid (hpOk ⟨old, cells, roots⟩ = roots.all (rootOk cells.length)) := by
        unfold Hid
        rw [HE2.out, HL.out, List.drop_eq_nil_of_le (by omega)]; rfl
      have hWl := hW
      go_wp2_with fail
      go_loopg [76] roots.length (fun g i wr => ∃ k : Nat, g = roots.length - k ∧ k ≤ roots.length ∧ i = .int .i64 (k : Int) ∧ Hid (roots.all (rootOk cells.length) = (roots.drop k).all (rootOk cells.length)) ∧ Below (w.heap.size + 1) (w.alloc (.cells #[.int .i64 old, .slice o1 cells.length c1, .slice o2 roots.length c2] 50)) wr)
      case atStart => exact ⟨0, rfl, by omega, by go_num, rfl, hWl⟩
      case round =>
        clear hWl hW hT hsz f0 f1 f2
        obtain ⟨j, hg2, hj, rfl, HL2, hW⟩ := hrel
        obtain ⟨⟨f0, f1, f2⟩, hT, hsz⟩ := HF.out wr hW
        by_cases hltj : (j : Int) < (roots.length : Int)
        · have hj' : j < roots.length := by omega
          obtain ⟨b, hob, hbl, hcl⟩ := HG2.out (by intro e; rw [e] at hj'; simp at hj')
          subst hob
          obtain ⟨r, hr⟩ : ∃ r, r = roots.getD j default := ⟨_, rfl⟩
          have hcell : wr.cell? ⟨b, j, none⟩ = some (.int .i64 r) := by
            have := hcl j 0 (.int .i64 (roots.getD j default)) hj' rfl
            rw [Nat.mul_one, Nat.add_zero, ← hr] at this
            exact (hT.cell (p := ⟨b, j, none⟩) hbl).trans this
          have hall := rootsOk_drop hj' HL2.out
          rw [← hr] at hall
          have HALL := hideT' hall
          clear hr hcl hall f0 f2
          go_wp2_with fail
          refine (l1In_any r 0 ((cells.length : Int) - 1) _).mono ?_
          rintro e w2 ⟨rfl, rfl⟩
          obtain ⟨q1, hq1⟩ : ∃ q, q = (decide ((0 : Int) ≤ r) && decide (r ≤ (cells.length : Int) - 1)) := ⟨_, rfl⟩
          rw [← hq1]
          have HQ1 := hideT' hq1
          clear hq1
          cases q1 with
          | false =>
            have HN : Hid (hpOk ⟨old, cells, roots⟩ = false) := by unfold Hid; rw [HE3.out, HALL.out]; unfold rootOk; rw [← HQ1.out]; rfl
            go_wp2
            go_ret
            exact ⟨by rw [HN.out]; rfl, hT⟩
          | true =>
            have HY : Hid (roots.all (rootOk cells.length) = (roots.drop (j + 1)).all (rootOk cells.length)) := by unfold Hid; rw [HALL.out]; unfold rootOk; rw [← HQ1.out]; rfl
            go_wp2
            go_roundg (roots.length - (j + 1))
            case measure => omega
            case rel => exact ⟨j + 1, rfl, by omega, by go_num, HY, hW⟩
        · have HY : Hid (hpOk ⟨old, cells, roots⟩ = true) := by
            unfold Hid
            rw [HE3.out, HL2.out, List.drop_eq_nil_of_le (by omega)]; rfl
          go_wp2
          go_ret
          exact ⟨by rw [HY.out]; rfl, hT⟩
end Go.Proofs.YtelciainidklgaaDoor
