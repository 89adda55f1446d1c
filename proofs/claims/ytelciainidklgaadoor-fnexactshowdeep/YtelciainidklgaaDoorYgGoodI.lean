/-
  What impl.GoodYoung answers.
-/
import Derived.Test.YtelciainidklgaaDoorYgMarks
namespace Go.Proofs.YtelciainidklgaaDoor
open Go.RowKit
set_option linter.unusedVariables false

theorem sndOk_parts {h : Hp} (hk : sndOk h = true) : h.cells.length ≤ 200 ∧ (0 ≤ h.old ∧ h.old ≤ (h.cells.length : Int)) := by
  unfold sndOk at hk
  simp only [Bool.and_eq_true, decide_eq_true_eq] at hk
  exact ⟨hk.1, hk.2.2.1⟩
/-- The noted ones, and those of the first k that must be. -/
def allM (old : Int) (noted : List Int) (cs : List Cl) : Nat → List Bool
  | 0 => nmk noted
  | k + 1 => if namedC old (cs.getD k default) then (allM old noted cs k).set k true else allM old noted cs k
theorem allM_len (old : Int) (noted : List Int) (cs : List Cl) (k : Nat) : (allM old noted cs k).length = 200 := by
  induction k with
  | zero => exact nmk_len noted
  | succ k ih =>
    rw [allM]
    split
    · rw [List.length_set]; exact ih
    · exact ih
theorem allM_iff (old : Int) (noted : List Int) (cs : List Cl) (k : Nat) (hk : k ≤ 200) : allM old noted cs k = nmk noted ↔ ∀ i, i < k → namedC old (cs.getD i default) = true → bAt (nmk noted) i = true := by
  have key : ∀ k, k ≤ 200 → ∀ i, i < 200 → bAt (allM old noted cs k) i = (bAt (nmk noted) i || decide (i < k ∧ namedC old (cs.getD i default) = true)) := by
    intro k
    induction k with
    | zero => intro _ i _; simp [allM]
    | succ k ih =>
      intro hk i hi
      have h1 := ih (by omega) i hi
      rw [allM]
      split
      · rename_i hn
        rw [bAt_set _ _ _ (by rw [allM_len]; exact hi), h1]
        by_cases e : i = k
        · subst e; rw [decide_eq_true rfl, Bool.true_or, decide_eq_true (show i < i + 1 ∧ namedC old (cs.getD i default) = true from ⟨by omega, hn⟩), Bool.or_true]
        · have : (i < k + 1 ∧ namedC old (cs.getD i default) = true) ↔ (i < k ∧ namedC old (cs.getD i default) = true) := ⟨fun h => ⟨by omega, h.2⟩, fun h => ⟨by omega, h.2⟩⟩
          rw [decide_eq_false e, Bool.false_or, decide_eq_decide.2 this]
      · rename_i hn
        rw [h1]
        have : (i < k + 1 ∧ namedC old (cs.getD i default) = true) ↔ (i < k ∧ namedC old (cs.getD i default) = true) := by
          refine ⟨fun h => ⟨?_, h.2⟩, fun h => ⟨by omega, h.2⟩⟩
          rcases Nat.lt_or_ge i k with h' | h'
          · exact h'
          · have : i = k := by omega
            subst this; exact absurd h.2 hn
        rw [decide_eq_decide.2 this]
  constructor
  · intro h i hi hn
    have := key k hk i (by omega)
    rw [h, decide_eq_true (show i < k ∧ _ from ⟨hi, hn⟩), Bool.or_true] at this
    exact this
  · intro h
    refine List.ext_getElem (by rw [allM_len, nmk_len]) fun i h1 h2 => ?_
    rw [allM_len] at h1
    have := key k hk i h1
    have e : (bAt (nmk noted) i || decide (i < k ∧ namedC old (cs.getD i default) = true)) = bAt (nmk noted) i := by
      by_cases hc : i < k ∧ namedC old (cs.getD i default) = true
      · rw [h i hc.1 hc.2]; rfl
      · rw [decide_eq_false hc, Bool.or_false]
    rw [e] at this
    simpa [bAt, List.getD, List.getElem?_eq_getElem (show i < (allM old noted cs k).length by rw [allM_len]; exact h1), List.getElem?_eq_getElem h2] using this
theorem needL_iff (old : Int) (noted : List Int) (k : Nat) (l : List Cl) : needL old noted k l = true ↔ ∀ i, i < l.length → needC old noted (k + i) (l.getD i default) = true := by
  induction l generalizing k with
  | nil => simp [needL]
  | cons c l ih =>
    rw [needL, Bool.and_eq_true, ih]
    constructor
    · rintro ⟨h0, h⟩ i hi
      cases i with
      | zero => simpa using h0
      | succ i => have := h i (by simpa using hi); rw [show k + (i + 1) = k + 1 + i by omega]; simpa using this
    · intro h
      refine ⟨by simpa using h 0 (by simp), fun i hi => ?_⟩
      have := h (i + 1) (by simpa using hi)
      rw [show k + (i + 1) = k + 1 + i by omega] at this
      simpa using this
/-- All that must be noted is, if noting it changes nothing. -/
theorem needL_allM (od : Nat) (noted : List Int) (cs : List Cl) (h : od ≤ cs.length) (hcs : cs.length ≤ 200) (hn : ∀ n ∈ noted, 0 ≤ n) : needL (od : Int) noted 0 cs = decide (allM (od : Int) noted cs od = nmk noted) := by
  rw [Bool.eq_iff_iff, needL_iff, decide_eq_true_eq, allM_iff _ _ _ _ (by omega)]
  constructor
  · intro h1 i hi hc
    have := h1 i (by omega)
    rw [Nat.zero_add] at this
    unfold needC at this
    rw [hc, decide_eq_true (show (i : Int) < (od : Int) by omega)] at this
    rw [bAt_nmk hn (by omega)]
    simpa using this
  · intro h1 i hi
    rw [Nat.zero_add]
    unfold needC
    by_cases h2 : (i : Int) < (od : Int) ∧ namedC (od : Int) (cs.getD i default) = true
    · have := h1 i (by omega) h2.2
      rw [bAt_nmk hn (by omega)] at this
      rw [this, Bool.or_true]
    · have : (decide ((i : Int) < (od : Int)) && namedC (od : Int) (cs.getD i default)) = false := by
        rw [Bool.eq_false_iff]; intro h; rw [Bool.and_eq_true, decide_eq_true_eq] at h; exact h2 h
      rw [this]; rfl

set_option maxHeartbeats 4000000 in
set_option maxRecDepth 100000 in
theorem implGoodYoung_any (m : Yg) (v1 v2 v3 : Value) (w : World) (hs : YgSmall m 1048576) (hl3 : m.noted.length ≤ 1048576) (hM : YgRd w v1 v2 v3 m) (hcap : ∀ o n c, v1 = .slice o n c → n ≤ c) :
    Calls Tryd.prog 38 #[.agg #[.int .i64 m.h.old, v1, v2, v3]] w fun e w' => e = .returned (.bool (ygOk m)) ∧ Below w.heap.size w w' := by
  have HOK : Hid (ygOk m = (sndOk m.h && (rise m.h.old 0 m.noted && needL m.h.old m.noted 0 m.h.cells))) := rfl
  have HSM := hideT' hs
  obtain ⟨o1, c1, e1, g1⟩ := hM.1.1
  obtain ⟨o2, c2, e2, g2⟩ := hM.1.2
  obtain ⟨o3, c3, e3, g3⟩ := hM.2
  subst e1 e2 e3
  have hcp := hcap o1 m.h.cells.length c1 rfl
  have HM := hideT' hM
  have HG1 := hideT' g1
  obtain ⟨R, hRR⟩ : ∃ R, R = ygOk m := ⟨_, rfl⟩
  rw [← hRR] at HOK ⊢
  have hB : Below w.heap.size w (w.alloc (.cells #[.int .i64 m.h.old, .slice o1 m.h.cells.length c1, .slice o2 m.h.roots.length c2, .slice o3 m.noted.length c3] 31)) := (Below.refl _ _).alloc (Nat.le_refl _) _
  have hzc := zero_cell.1
  have hzh := zero_hp.1
  have hzm := zero_cm.1
  obtain ⟨NZ, hNZ⟩ : ∃ N, N = mkA (List.replicate 200 false) := ⟨_, rfl⟩
  rw [← hNZ] at hzm
  have HNZ := hideT' hNZ
  -- what every later world knows
  have HF : Hid (∀ w', Below (w.heap.size + 1) (w.alloc (.cells #[.int .i64 m.h.old, .slice o1 m.h.cells.length c1, .slice o2 m.h.roots.length c2, .slice o3 m.noted.length c3] 31)) w' → ((w'.cell? ⟨w.heap.size, 0, none⟩ = some (.int .i64 m.h.old) ∧ w'.cell? ⟨w.heap.size, 1, none⟩ = some (.slice o1 m.h.cells.length c1)) ∧ w'.cell? ⟨w.heap.size, 2, none⟩ = some (.slice o2 m.h.roots.length c2) ∧ w'.cell? ⟨w.heap.size, 3, none⟩ = some (.slice o3 m.noted.length c3)) ∧ Below w.heap.size w w' ∧ w.heap.size + 1 ≤ w'.heap.size) := by
    intro w' h
    have hr := RowAt.below (RowAt.new w 31 #[.int .i64 m.h.old, .slice o1 m.h.cells.length c1, .slice o2 m.h.roots.length c2, .slice o3 m.noted.length c3]) h (by omega)
    refine ⟨⟨⟨?_, ?_⟩, ?_, ?_⟩, hB.trans (h.mono (by omega)), by have := h.size; simpa using this⟩ <;> (rw [cell_of_row w' _ _ _ _ _ hr]; rfl)
  have HB := hideT' hB
  clear hM g1 g2 g3 hRR hNZ hB hs hcap
  go_enter Tryd.func38, Tryd.ntmps38
  go_wp2_with fail
  refine (withoutNotes_any m.h.old o1 m.h.cells.length c1 o2 m.h.roots.length c2 o3 m.noted.length c3 _).mono ?_
  rintro e w1 ⟨rfl, hB1⟩
  have hB1' : Below (w.heap.size + 1) (w.alloc (.cells #[.int .i64 m.h.old, .slice o1 m.h.cells.length c1, .slice o2 m.h.roots.length c2, .slice o3 m.noted.length c3] 31)) w1 := hB1.mono (by simp)
  have hs1 := (HF.out _ hB1').2.2
  have hBn : Below w1.heap.size w1 (w1.alloc (.cells #[.int .i64 m.h.old, .slice o1 m.h.cells.length c1, .slice o2 m.h.roots.length c2] 50)) := (Below.refl _ _).alloc (Nat.le_refl _) _
  have hB2 := hB1'.trans (hBn.mono hs1)
  have hRn := RowAt.new w1 50 #[.int .i64 m.h.old, .slice o1 m.h.cells.length c1, .slice o2 m.h.roots.length c2]
  have HS := hideT' (isSound_any m.h w1.heap.size _ _ _ HSM.out.1 (by rw [cell_of_row _ _ _ _ _ _ hRn]; rfl) (by rw [cell_of_row _ _ _ _ _ _ hRn]; rfl) (by rw [cell_of_row _ _ _ _ _ _ hRn]; rfl) (HM.out.1.below (HF.out _ hB2).2.1))
  have HB2 := hideT' hB2
  have HS1 := hideT' hs1
  clear hB1 hB1' hBn hB2 hRn
  go_wp2_with fail
  refine HS.out.mono ?_
  rintro e w3 ⟨rfl, hB3⟩
  have hB3' := HB2.out.trans (hB3.mono (by simp; omega))
  have hT3 := (HF.out _ hB3').2.1
  obtain ⟨⟨f0, f1⟩, f2, f3⟩ := (HF.out _ hB3').1
  have hs3 := hB3.size
  simp only [World.size_alloc] at hs3
  obtain ⟨q, hq⟩ : ∃ q, q = sndOk m.h := ⟨_, rfl⟩
  rw [← hq] at HOK ⊢
  have HQ := hideT' hq
  have HT3 := hideT' hT3
  have HB3 := hideT' hB3'
  clear hq hB3 hT3 hB3'
  cases q with
  | false =>
    have HN : Hid (R = false) := by unfold Hid; rw [HOK.out]; rfl
    go_wp2
    go_ret
    exact ⟨by rw [HN.out]; rfl, HT3.out⟩
  | true =>
  obtain ⟨hl1, hold⟩ := sndOk_parts HQ.out.symm
  have HRI := hideT' (rising_any m.noted m.h.old _ w3 (HM.out.2.below HT3.out) hl3 (by omega))
  go_wp2_with fail
  refine HRI.out.mono ?_
  rintro e w4 ⟨rfl, rfl⟩
  obtain ⟨q1, hq1⟩ : ∃ q, q = rise m.h.old 0 m.noted := ⟨_, rfl⟩
  rw [← hq1] at HOK ⊢
  have HQ1 := hideT' hq1
  clear hq1
  cases q1 with
  | false =>
    have HN : Hid (R = false) := by unfold Hid; rw [HOK.out]; rfl
    go_wp2
    go_ret
    exact ⟨by rw [HN.out]; rfl, HT3.out⟩
  | true =>
  have hmem := rise_mem m.noted 0 HQ1.out.symm
  have HMEM := hideT' hmem
  have HMK := hideT' (marksOf_any m.noted _ w4 (HM.out.2.below HT3.out) hl3 (fun n hn => ⟨(hmem n hn).1, by have := (hmem n hn).2; omega⟩))
  obtain ⟨od, hod⟩ : ∃ od : Nat, m.h.old = (od : Int) := ⟨m.h.old.toNat, by omega⟩
  have HOD := hideT' hod
  have hodn : od ≤ m.h.cells.length := by omega
  have HOK2 : Hid (R = decide (allM (od : Int) m.noted m.h.cells od = nmk m.noted)) := by
    unfold Hid
    rw [HOK.out, ← needL_allM od m.noted m.h.cells hodn hl1 (fun n hn => (hmem n hn).1), ← hod]; rfl
  obtain ⟨n, hn⟩ : ∃ n, n = m.h.cells.length := ⟨_, rfl⟩
  have HNN := hideT' hn
  rw [← hn] at hodn
  clear hmem hold hn hod
  rw [HOD.out] at f0 HF HB3
  have hodc : (od : Int) ≤ (c1 : Int) := by have := HNN.out; omega
  go_wp2_with fail
  refine HMK.out.mono ?_
  rintro e w5 ⟨rfl, hB5⟩
  have hT5 := HT3.out.trans (hB5.mono HT3.out.size)
  have hs5 := hB5.size
  -- the first array
  obtain ⟨w6, hw6⟩ : ∃ w6, w6 = w5.alloc (.cells NZ 78) := ⟨_, rfl⟩
  have hX6 : RecAt w6 w5.heap.size 78 boolL (List.replicate 200 false) := by rw [hw6, HNZ.out]; exact RowAt.new _ _ _
  have hB6 : Below w4.heap.size w4 w6 := hB5.trans (by rw [hw6]; exact ((Below.refl _ _).alloc (Nat.le_refl _) _).mono hs5)
  have hs6 : w6.heap.size = w5.heap.size + 1 := by rw [hw6]; simp
  have HW6 := hideT' hw6
  clear hw6 hB5
  have hnl := nmk_len m.noted
  have HA8 : Hid (∀ w7 : World, w7.heap.size = w6.heap.size → RecAt (w7.alloc (.cells NZ 78)) (w5.heap.size + 1) 78 boolL (List.replicate 200 false)) := by
    intro w7 h
    rw [HNZ.out, show w5.heap.size + 1 = w7.heap.size by omega]
    exact RowAt.new _ _ _
  have HB9 : Hid (∀ w7 w9 : World, w6.grownBy w7 (some w5.heap.size) → w7.heap.size = w6.heap.size → (w7.alloc (.cells NZ 78)).grownBy w9 (some (w5.heap.size + 1)) → (w9.cell? ⟨w.heap.size, 0, none⟩ = some (.int .i64 (od : Int)) ∧ w9.cell? ⟨w.heap.size, 1, none⟩ = some (.slice o1 m.h.cells.length c1)) ∧ Below w4.heap.size w4 w9) := by
    intro w7 w9 hg7 h7 hg9
    have h1 : Below w4.heap.size w4 w7 := hB6.grown hg7 (by omega) (fun k e => by cases e; exact hs5)
    have h2 : Below w4.heap.size w4 (w7.alloc (.cells NZ 78)) := h1.alloc (by omega) _
    have hb : Below w4.heap.size w4 w9 := h2.grown hg9 (by rw [World.size_alloc]; omega) (fun k e => by cases e; omega)
    exact ⟨(HF.out _ (HB3.out.trans (hb.mono (by omega)))).1.1, hb⟩
  go_wp2_with (first | (rw [← HW6.out]; refine store_cm rfl _ _ rfl rfl w5.heap.size (nmk m.noted) rfl rfl (List.replicate 200 false) hX6 (by rw [List.length_replicate]) hnl ?_; intro w7 hX7 hg7 hs7; have hX8 := HA8.out w7 hs7) | (refine load_cm rfl _ rfl w5.heap.size rfl (nmk m.noted) hX7 hnl ?_) | (refine store_cm rfl _ _ rfl rfl (w5.heap.size + 1) (nmk m.noted) rfl rfl (List.replicate 200 false) hX8 (by rw [List.length_replicate]) hnl ?_; intro w9 hX9 hg9 hs9; obtain ⟨⟨k0, k1⟩, hB9⟩ := HB9.out w7 w9 hg7 hs7 hg9))
  have HX9 := hideT' hX9
  have HX7 : Hid (RecAt w9 w5.heap.size 78 boolL (nmk m.noted)) := by
    have h1 : RecAt (w7.alloc (.cells NZ 78)) w5.heap.size 78 boolL (nmk m.noted) := RowAt.old hX7 _
    exact RowAt.grown h1 hg9 (by intro e; injection e; omega)
  have HB9' := hideT' hB9
  clear hX6 hX7 hX8 hX9 hg7 hg9 hB9 HB9 HA8 HW6 hs9 f0 f1 f2 f3 hB6
  go_loopg [30] od (fun g i wr => ∃ k : Nat, g = od - k ∧ k ≤ od ∧ i = .int .i64 (k : Int) ∧ (RecAt wr w5.heap.size 78 boolL (nmk m.noted) ∧ RecAt wr (w5.heap.size + 1) 78 boolL (allM (od : Int) m.noted m.h.cells k)) ∧ Below w4.heap.size w4 wr)
  case atStart => exact ⟨0, rfl, by omega, by go_num, ⟨HX7.out, HX9.out⟩, HB9'.out⟩
  case round =>
    clear k0 k1 HX7 HX9 HB9'
    obtain ⟨k, hg, hk, rfl, ⟨h0, h1⟩, hB⟩ := hrel
    have hT := HT3.out.trans (hB.mono HT3.out.size)
    by_cases hlt : (k : Int) < (od : Int)
    · have hk' : k < m.h.cells.length := by have := HNN.out; omega
      obtain ⟨b, hob, hbl, hcl⟩ := HG1.out (by intro e; rw [e] at hk'; simp at hk')
      subst hob
      obtain ⟨d, hd⟩ : ∃ d, d = m.h.cells.getD k default := ⟨_, rfl⟩
      have hcl2 : ∀ j u, (cellL d)[j]? = some u → wr.cell? ⟨b, k * 4 + j, none⟩ = some u := fun j u hu => (hT.cell (p := ⟨b, k * 4 + j, none⟩) hbl).trans (hcl k j u hk' (by rw [← hd]; exact hu))
      obtain ⟨lf, n', a, c⟩ := d
      have d0 := hcl2 0 (.bool lf) rfl
      have d1 := hcl2 1 (.int .i64 n') rfl
      have d2 := hcl2 2 (.int .i64 a) rfl
      have d3 := hcl2 3 (.int .i64 c) rfl
      rw [Nat.add_zero] at d0
      have hsz := hB.size
      obtain ⟨W, hW⟩ : ∃ W, W = wr.alloc (.cells #[.bool lf, .int .i64 n', .int .i64 a, .int .i64 c] 99) := ⟨_, rfl⟩
      have hBn : Below w4.heap.size w4 W := by rw [hW]; exact hB.alloc hsz _
      obtain ⟨⟨n0, _⟩, _⟩ := (HF.out W (HB3.out.trans (hBn.mono (by omega)))).1
      have h0n : RecAt W w5.heap.size 78 boolL (nmk m.noted) := by rw [hW]; exact RowAt.old h0 _
      have h1n : RecAt W (w5.heap.size + 1) 78 boolL (allM (od : Int) m.noted m.h.cells k) := by rw [hW]; exact RowAt.old h1 _
      have hsW : W.heap.size = wr.heap.size + 1 := by rw [hW]; simp
      have hk200 : k < 200 := by have := HNN.out; omega
      have hal := allM_len (od : Int) m.noted m.h.cells k
      have q1 := cm_cell h1n (i := k) (by rw [hal]; exact hk200)
      have q2 := cm_froz h1n k
      have hgs := grown_set W (w5.heap.size + 1) k (.bool true)
      have H1S := hideT' (cm_set h1n k true)
      have H0S := hideT' (RowAt.grown h0n hgs (by intro e; injection e; omega))
      have HBS := hideT' (hBn.grown hgs hBn.size (fun k e => by cases e; omega))
      have HN3 := hideT' (And.intro h0n (And.intro h1n hBn))
      obtain ⟨q, hq⟩ : ∃ q, q = namedC (od : Int) (lf, n', a, c) := ⟨_, rfl⟩
      have HAL : Hid (allM (od : Int) m.noted m.h.cells (k + 1) = if q then (allM (od : Int) m.noted m.h.cells k).set k true else allM (od : Int) m.noted m.h.cells k) := by unfold Hid; rw [allM, ← hd, ← hq]
      have HQQ := hideT' hq
      have HD := hideT' hd
      rw [hW] at n0 q1 q2 H1S H0S HBS HN3
      clear hcl hcl2 hd h0n h1n hBn hgs h0 h1 hB hT hW hq hsW hal
      cases lf with
      | true =>
        have hqf : q = false := HQQ.out
        have HY : Hid (allM (od : Int) m.noted m.h.cells (k + 1) = allM (od : Int) m.noted m.h.cells k) := by unfold Hid; rw [HAL.out, hqf]; rfl
        clear hqf
        go_wp2
        go_roundg (od - (k + 1))
        case measure => omega
        case rel => exact ⟨k + 1, rfl, by omega, by go_num, ⟨HN3.out.1, by rw [HY.out]; exact HN3.out.2.1⟩, HN3.out.2.2⟩
      | false =>
        have hqe : q = (decide ((od : Int) ≤ a) || decide ((od : Int) ≤ c)) := HQQ.out
        have HQE := hideT' hqe
        clear hqe
        by_cases hac : a < c
        · by_cases hoc : (od : Int) ≤ c
          · have HY : Hid (allM (od : Int) m.noted m.h.cells (k + 1) = (allM (od : Int) m.noted m.h.cells k).set k true) := by unfold Hid; rw [HAL.out, HQE.out, decide_eq_true hoc, Bool.or_true]; rfl
            go_wp2
            go_roundg (od - (k + 1))
            case measure => omega
            case rel => exact ⟨k + 1, rfl, by omega, by go_num, ⟨H0S.out, by rw [HY.out]; exact H1S.out⟩, HBS.out⟩
          · have HY : Hid (allM (od : Int) m.noted m.h.cells (k + 1) = allM (od : Int) m.noted m.h.cells k) := by unfold Hid; rw [HAL.out, HQE.out, decide_eq_false hoc, decide_eq_false (show ¬ (od : Int) ≤ a by omega)]; rfl
            go_wp2
            go_roundg (od - (k + 1))
            case measure => omega
            case rel => exact ⟨k + 1, rfl, by omega, by go_num, ⟨HN3.out.1, by rw [HY.out]; exact HN3.out.2.1⟩, HN3.out.2.2⟩
        · by_cases hoc : (od : Int) ≤ a
          · have HY : Hid (allM (od : Int) m.noted m.h.cells (k + 1) = (allM (od : Int) m.noted m.h.cells k).set k true) := by unfold Hid; rw [HAL.out, HQE.out, decide_eq_true hoc, Bool.true_or]; rfl
            go_wp2
            go_roundg (od - (k + 1))
            case measure => omega
            case rel => exact ⟨k + 1, rfl, by omega, by go_num, ⟨H0S.out, by rw [HY.out]; exact H1S.out⟩, HBS.out⟩
          · have HY : Hid (allM (od : Int) m.noted m.h.cells (k + 1) = allM (od : Int) m.noted m.h.cells k) := by unfold Hid; rw [HAL.out, HQE.out, decide_eq_false hoc, decide_eq_false (show ¬ (od : Int) ≤ c by omega)]; rfl
            go_wp2
            go_roundg (od - (k + 1))
            case measure => omega
            case rel => exact ⟨k + 1, rfl, by omega, by go_num, ⟨HN3.out.1, by rw [HY.out]; exact HN3.out.2.1⟩, HN3.out.2.2⟩
    · have hko : k = od := by omega
      subst hko
      have hal := allM_len (k : Int) m.noted m.h.cells k
      have HT := hideT' hT
      clear hT hB
      go_wp2_with (first | (refine load_cm rfl _ rfl (w5.heap.size + 1) rfl (allM (k : Int) m.noted m.h.cells k) h1 hal ?_) | (refine load_cm rfl _ rfl w5.heap.size rfl (nmk m.noted) h0 hnl ?_) | (refine eql_cm rfl _ _ rfl (allM (k : Int) m.noted m.h.cells k) (nmk m.noted) rfl rfl hal hnl ?_))
      go_ret
      exact ⟨by rw [HOK2.out]; rfl, HT.out⟩
end Go.Proofs.YtelciainidklgaaDoor
