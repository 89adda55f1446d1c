/-
  What spec.GoodYoung answers.
-/
import Derived.Test.YtelciainidklgaaDoorYgLaw
import Derived.Test.YtelciainidklgaaDoorImplGood
namespace Go.Proofs.YtelciainidklgaaDoor
open Go.RowKit
set_option linter.unusedVariables false

/-- Rising, from least on, below a limit. -/
def rise (lim : Int) : Int → List Int → Bool
  | _, [] => true
  | least, n :: l => decide (least ≤ n) && (decide (n < lim) && rise lim (n + 1) l)
theorem rise_drop {lim least : Int} {l : List Int} {k : Nat} (hk : k < l.length) (h : rise lim 0 l = rise lim least (l.drop k)) : rise lim 0 l = (decide (least ≤ l.getD k default) && (decide (l.getD k default < lim) && rise lim (l.getD k default + 1) (l.drop (k + 1)))) := by
  have e : l.getD k default = l[k] := by simp [List.getD, List.getElem?_eq_getElem hk]
  rw [h, e, List.drop_eq_getElem_cons hk]; rfl
theorem rise_mem {lim : Int} : ∀ (l : List Int) (least : Int), rise lim least l = true → ∀ n ∈ l, least ≤ n ∧ n < lim
  | [], _, _ => fun n h => by cases h
  | x :: l, least, h => fun n hn => by
    simp only [rise, Bool.and_eq_true, decide_eq_true_eq] at h
    rcases List.mem_cons.1 hn with rfl | hn
    · exact ⟨h.1, h.2.1⟩
    · have := rise_mem l _ h.2.2 n hn
      exact ⟨by omega, this.2⟩
/-- A pair that names a cell from old on. -/
def namedC (old : Int) (c : Cl) : Bool := !c.1 && (decide (old ≤ c.2.2.1) || decide (old ≤ c.2.2.2))
/-- It is noted, if it must be. -/
def needC (old : Int) (noted : List Int) (i : Nat) (c : Cl) : Bool := !(decide ((i : Int) < old) && namedC old c) || decide ((i : Int) ∈ noted)
def needL (old : Int) (noted : List Int) : Nat → List Cl → Bool
  | _, [] => true
  | k, c :: l => needC old noted k c && needL old noted (k + 1) l
/-- A good heap that is written. -/
def ygOk (m : Yg) : Bool := sndOk m.h && (rise m.h.old 0 m.noted && needL m.h.old m.noted 0 m.h.cells)
/-- Both at once, as the model looks. -/
def bothL (n : Nat) (old : Int) (noted : List Int) : Nat → List Cl → Bool
  | _, [] => true
  | k, c :: l => (sndC n c && needC old noted k c) && bothL n old noted (k + 1) l
theorem bothL_eq (n : Nat) (old : Int) (noted : List Int) (k : Nat) (l : List Cl) : bothL n old noted k l = (l.all (sndC n) && needL old noted k l) := by
  induction l generalizing k with
  | nil => rfl
  | cons c l ih =>
    rw [bothL, List.all_cons, needL, ih]
    cases sndC n c <;> cases needC old noted k c <;> simp
theorem bothL_drop {n : Nat} {old : Int} {noted : List Int} {cs : List Cl} {k : Nat} (hk : k < cs.length) (h : bothL n old noted 0 cs = bothL n old noted k (cs.drop k)) : bothL n old noted 0 cs = ((sndC n (cs.getD k default) && needC old noted k (cs.getD k default)) && bothL n old noted (k + 1) (cs.drop (k + 1))) := by
  have : cs.getD k default = cs[k] := by simp [List.getD, List.getElem?_eq_getElem hk]
  rw [h, this, List.drop_eq_getElem_cons hk]; rfl
theorem ygOk_eq (m : Yg) : ygOk m = (decide (m.h.cells.length ≤ 200) && (decide (m.h.roots.length ≤ 60) && ((decide (0 ≤ m.h.old) && decide (m.h.old ≤ (m.h.cells.length : Int))) && (rise m.h.old 0 m.noted && (bothL m.h.cells.length m.h.old m.noted 0 m.h.cells && m.h.roots.all (rootOk m.h.cells.length)))))) := by
  unfold ygOk sndOk
  rw [bothL_eq]
  cases rise m.h.old 0 m.noted <;> cases needL m.h.old m.noted 0 m.h.cells <;> cases m.h.cells.all (sndC m.h.cells.length) <;> cases m.h.roots.all (rootOk m.h.cells.length) <;> simp

theorem InR.intY {w : World} {v : Value} {l : List Int} (h : InR w v intL 1 l) : ∃ o cap, v = .slice o l.length cap ∧ ∀ i x, l[i]? = some x → ∃ g, o = some ⟨g, 0, none⟩ ∧ g < w.heap.size ∧ w.cell? ⟨g, i, none⟩ = some (.int .i64 x) := by
  obtain ⟨o, cap, e, hin⟩ := h
  refine ⟨o, cap, e, fun i x hi => ?_⟩
  have hil := (List.getElem?_eq_some_iff.1 hi).1
  obtain ⟨g, ho, hg, hc⟩ := hin (by intro e; rw [e] at hil; simp at hil)
  refine ⟨g, ho, hg, ?_⟩
  have := hc i 0 (.int .i64 x) hil (by rw [List.getD, hi]; rfl)
  simpa using this
set_option maxHeartbeats 2000000 in
theorem lcHasY_any (l : List Int) (v : Value) (k : Int) (w : World) (hv : InR w v intL 1 l) (hl : l.length ≤ 1048576) :
    Calls Tryd.prog 58 #[v, .int .i64 k] w fun e w' => e = .returned (.bool (decide (k ∈ l))) ∧ w' = w := by
  obtain ⟨o, cap, rfl, hc⟩ := hv.intY
  have HC := hideT' hc
  obtain ⟨n, hn⟩ : ∃ n, n = l.length := ⟨_, rfl⟩
  rw [← hn] at hl ⊢
  have HN := hideT' hn
  obtain ⟨r, hr⟩ : ∃ r, r = decide (k ∈ l) := ⟨_, rfl⟩
  rw [← hr]
  have HR := hideT' hr
  clear hv hc hn hr
  go_enter Tryd.func58, Tryd.ntmps58
  go_wp2_with fail
  go_loopg [9] n (fun g i wr => ∃ j : Nat, g = n - j ∧ j ≤ n ∧ i = .int .i64 (j : Int) ∧ Hid (∀ m x, m < j → l[m]? = some x → x ≠ k) ∧ w = wr)
  case atStart => exact ⟨0, rfl, by omega, by go_num, fun m x hm => absurd hm (by omega), rfl⟩
  case round =>
    obtain ⟨j, hg, hj, rfl, HJ, rfl⟩ := hrel
    by_cases hlt : (j : Int) < (n : Int)
    · obtain ⟨x, hx⟩ : ∃ x, l[j]? = some x := ⟨l[j]'(by have := HN.out; omega), by rw [List.getElem?_eq_getElem]⟩
      obtain ⟨g0, ho, hg0, hcj⟩ := HC.out j x hx
      subst ho
      by_cases hxk : x = k
      · have HF : Hid (r = true) := by unfold Hid; rw [HR.out, ← hxk]; exact decide_eq_true (List.mem_of_getElem? hx)
        subst hxk
        clear hx
        go_wp2
        go_ret
        exact ⟨by rw [HF.out]; rfl, rfl⟩
      · have hxb : (x == k) = false := by simp [hxk]
        have HJ2 : Hid (∀ m x, m < j + 1 → l[m]? = some x → x ≠ k) := by
          intro m y hm hy
          by_cases e : m = j
          · subst e; rw [hx] at hy; injection hy with hy; rw [← hy]; exact hxk
          · exact HJ.out m y (by omega) hy
        clear hx
        go_wp2
        go_roundg (n - (j + 1))
        case measure => omega
        case rel => exact ⟨j + 1, rfl, by omega, by go_num, HJ2, rfl⟩
    · have HF : Hid (r = false) := by
        unfold Hid
        rw [HR.out]
        refine decide_eq_false (fun h => ?_)
        obtain ⟨m, hm⟩ := List.getElem?_of_mem h
        have := (List.getElem?_eq_some_iff.1 hm).1
        exact HJ.out m k (by have := HN.out; omega) hm rfl
      go_wp2
      go_ret
      exact ⟨by rw [HF.out]; rfl, rfl⟩

set_option maxHeartbeats 8000000 in
set_option maxRecDepth 100000 in
theorem specGoodYoung_any (m : Yg) (v1 v2 v3 : Value) (w : World) (hs : YgSmall m 1048576) (hl3 : m.noted.length ≤ 1048576) (hM : YgRd w v1 v2 v3 m) :
    Calls Tryd.prog 32 #[.agg #[.int .i64 m.h.old, v1, v2, v3]] w fun e w' => e = .returned (.bool (ygOk m)) ∧ Below w.heap.size w w' := by
  have HE := hideT' (ygOk_eq m)
  obtain ⟨⟨old, cells, roots⟩, noted⟩ := m
  obtain ⟨⟨s1, s2⟩, s3⟩ := hs
  simp only at s1 s2 s3 hl3 HE
  obtain ⟨o1, c1, e1, g1⟩ := hM.1.1
  obtain ⟨o2, c2, e2, g2⟩ := hM.1.2
  obtain ⟨o3, c3, e3, g3⟩ := hM.2
  simp only at e1 e2 e3
  subst e1 e2 e3
  have HG1 := hideT' g1
  have HG2 := hideT' g2
  have HG3 := hideT' g3
  have HM3 := hideT' hM.2
  obtain ⟨R, hRR⟩ : ∃ R, R = ygOk ⟨⟨old, cells, roots⟩, noted⟩ := ⟨_, rfl⟩
  rw [← hRR] at HE ⊢
  have hB : Below w.heap.size w (w.alloc (.cells #[.int .i64 old, .slice o1 cells.length c1, .slice o2 roots.length c2, .slice o3 noted.length c3] 31)) := (Below.refl _ _).alloc (Nat.le_refl _) _
  have hzc := zero_cell.1
  -- what every later world knows
  have HF : Hid (∀ w', Below (w.heap.size + 1) (w.alloc (.cells #[.int .i64 old, .slice o1 cells.length c1, .slice o2 roots.length c2, .slice o3 noted.length c3] 31)) w' → ((w'.cell? ⟨w.heap.size, 0, none⟩ = some (.int .i64 old) ∧ w'.cell? ⟨w.heap.size, 1, none⟩ = some (.slice o1 cells.length c1)) ∧ w'.cell? ⟨w.heap.size, 2, none⟩ = some (.slice o2 roots.length c2) ∧ w'.cell? ⟨w.heap.size, 3, none⟩ = some (.slice o3 noted.length c3)) ∧ Below w.heap.size w w' ∧ w.heap.size + 1 ≤ w'.heap.size) := by
    intro w' h
    have hr := RowAt.below (RowAt.new w 31 #[.int .i64 old, .slice o1 cells.length c1, .slice o2 roots.length c2, .slice o3 noted.length c3]) h (by omega)
    refine ⟨⟨⟨?_, ?_⟩, ?_, ?_⟩, hB.trans (h.mono (by omega)), by have := h.size; simpa using this⟩ <;> (rw [cell_of_row w' _ _ _ _ _ hr]; rfl)
  clear hM g1 g2 g3 hRR
  by_cases h200 : (200 : Int) < (cells.length : Int)
  · have HN : Hid (R = false) := by unfold Hid; rw [HE.out, decide_eq_false (show ¬ cells.length ≤ 200 by omega)]; rfl
    go_enter Tryd.func32, Tryd.ntmps32
    go_wp2
    go_ret
    exact ⟨by rw [HN.out]; rfl, hB⟩
  by_cases h60 : (60 : Int) < (roots.length : Int)
  · have HN : Hid (R = false) := by unfold Hid; rw [HE.out, decide_eq_false (show ¬ roots.length ≤ 60 by omega)]; simp
    go_enter Tryd.func32, Tryd.ntmps32
    go_wp2
    go_ret
    exact ⟨by rw [HN.out]; rfl, hB⟩
  go_enter Tryd.func32, Tryd.ntmps32
  go_wp2_with fail
  refine (l1In_any old 0 (cells.length : Int) _).mono ?_
  rintro e w1 ⟨rfl, rfl⟩
  obtain ⟨q, hq⟩ : ∃ q, q = (decide ((0 : Int) ≤ old) && decide (old ≤ (cells.length : Int))) := ⟨_, rfl⟩
  rw [← hq]
  have HQ := hideT' hq
  cases q with
  | false =>
    have HN : Hid (R = false) := by unfold Hid; rw [HE.out, ← HQ.out]; simp
    clear hq
    go_wp2
    go_ret
    exact ⟨by rw [HN.out]; rfl, hB⟩
  | true =>
  have HE2 : Hid (R = (rise old 0 noted && (bothL cells.length old noted 0 cells && roots.all (rootOk cells.length)))) := by
    unfold Hid; rw [HE.out, ← HQ.out, decide_eq_true (show cells.length ≤ 200 by omega), decide_eq_true (show roots.length ≤ 60 by omega)]; rfl
  have hold : 0 ≤ old ∧ old ≤ (cells.length : Int) := by simpa using hq.symm
  clear hq HE HQ
  go_wp2_with fail
  go_loopg [31] noted.length (fun g i wr => ∃ k : Nat, g = noted.length - k ∧ k ≤ noted.length ∧ i = .int .i64 (k : Int) ∧ (∃ least : Int, (0 ≤ least ∧ (k = 0 ∧ least = 0 ∨ 0 < k ∧ least = noted.getD (k - 1) default + 1)) ∧ Hid (rise old 0 noted = rise old least (noted.drop k))) ∧ Below (w.heap.size + 1) (w.alloc (.cells #[.int .i64 old, .slice o1 cells.length c1, .slice o2 roots.length c2, .slice o3 noted.length c3] 31)) wr)
  case atStart => exact ⟨0, rfl, by omega, by go_num, ⟨0, ⟨by omega, .inl ⟨rfl, rfl⟩⟩, rfl⟩, Below.refl _ _⟩
  case round =>
    obtain ⟨k, hg, hk, rfl, ⟨least, ⟨hl0, hls⟩, HL⟩, hW⟩ := hrel
    obtain ⟨⟨⟨f0, f1⟩, f2, f3⟩, hT, hsz⟩ := HF.out wr hW
    by_cases hlt : (k : Int) < (noted.length : Int)
    · have hk' : k < noted.length := by omega
      obtain ⟨b, hob, hbl, hcl⟩ := HG3.out (by intro e; rw [e] at hk'; simp at hk')
      subst hob
      have hci : ∀ i, i < noted.length → wr.cell? ⟨b, i, none⟩ = some (.int .i64 (noted.getD i default)) := fun i hi => by
        have := hcl i 0 (.int .i64 (noted.getD i default)) hi rfl
        rw [Nat.mul_one, Nat.add_zero] at this
        exact (hT.cell (p := ⟨b, i, none⟩) hbl).trans this
      obtain ⟨x, hx⟩ : ∃ x, x = noted.getD k default := ⟨_, rfl⟩
      have hcx := hci k hk'
      rw [← hx] at hcx
      have hall := rise_drop hk' HL.out
      rw [← hx] at hall
      have HALL := hideT' hall
      have HX := hideT' hx
      have HLS := hideT' (And.intro hl0 hls)
      have HCI := hideT' hci
      have hobd : -9223372036854775808 ≤ old - 1 := by omega
      clear hall hx hls hl0 hci
      go_wp2_with fail
      refine (l1In_any x 0 (old - 1) _).mono ?_
      rintro e w2 ⟨rfl, rfl⟩
      obtain ⟨q1, hq1⟩ : ∃ q, q = (decide ((0 : Int) ≤ x) && decide (x ≤ old - 1)) := ⟨_, rfl⟩
      rw [← hq1]
      have HQ1 := hideT' hq1
      clear hq1
      cases q1 with
      | false =>
        have HN : Hid (R = false) := by
          have hn : ¬ (0 ≤ x ∧ x ≤ old - 1) := by
            intro h
            have := HQ1.out
            rw [decide_eq_true h.1, decide_eq_true h.2] at this
            cases this
          have hl0 := HLS.out.1
          unfold Hid
          rw [HE2.out, HALL.out]
          by_cases h0 : least ≤ x
          · rw [decide_eq_false (show ¬ x < old by omega)]; simp
          · rw [decide_eq_false h0]; simp
        go_wp2
        go_ret
        exact ⟨by rw [HN.out]; rfl, hT⟩
      | true =>
      have hx01 : 0 ≤ x ∧ x ≤ old - 1 := by simpa using HQ1.out.symm
      have HX01 := hideT' hx01
      clear hx01
      have hkz : k = 0 ∨ 0 < k := by omega
      rcases hkz with hkz | hkz
      · subst hkz
        have hlz : least = 0 := by
          rcases HLS.out.2 with h | h
          · exact h.2
          · exact absurd h.1 (by omega)
        have HY : Hid (rise old 0 noted = rise old (x + 1) (noted.drop (0 + 1))) := by
          have hx01 := HX01.out
          unfold Hid
          rw [HALL.out, hlz, decide_eq_true hx01.1, decide_eq_true (show x < old by omega)]; rfl
        have HX1 : Hid (0 ≤ x + 1 ∧ (0 + 1 = 0 ∧ x + 1 = 0 ∨ 0 < 0 + 1 ∧ x + 1 = noted.getD (0 + 1 - 1) default + 1)) := by
          have hx01 := HX01.out
          exact ⟨by omega, .inr ⟨by omega, by rw [HX.out]⟩⟩
        clear hlz
        go_wp2
        go_roundg (noted.length - (0 + 1))
        case measure => omega
        case rel => exact ⟨0 + 1, rfl, by omega, by go_num, ⟨x + 1, HX1.out, HY⟩, hW⟩
      · obtain ⟨k1, rfl⟩ : ∃ k1, k = k1 + 1 := ⟨k - 1, by omega⟩
        have hlp : least = noted.getD k1 default + 1 := by
          rcases HLS.out.2 with h | h
          · exact absurd h.1 (by omega)
          · exact h.2
        obtain ⟨p, hp⟩ : ∃ p, p = noted.getD k1 default := ⟨_, rfl⟩
        have hcp := HCI.out k1 (by omega)
        rw [← hp] at hcp hlp
        have HLP := hideT' hlp
        clear hp hlp
        have hk1n : (k1 : Int) < (noted.length : Int) := by omega
        by_cases hpx : x ≤ p
        · have HN : Hid (R = false) := by
            have hlp := HLP.out
            unfold Hid
            rw [HE2.out, HALL.out, decide_eq_false (show ¬ least ≤ x by omega)]; simp
          go_wp2
          go_ret
          exact ⟨by rw [HN.out]; rfl, hT⟩
        · have HY : Hid (rise old 0 noted = rise old (x + 1) (noted.drop (k1 + 1 + 1))) := by
            have hlp := HLP.out
            have hx01 := HX01.out
            unfold Hid
            rw [HALL.out, decide_eq_true (show least ≤ x by omega), decide_eq_true (show x < old by omega)]; rfl
          have HX1 : Hid (0 ≤ x + 1 ∧ (k1 + 1 + 1 = 0 ∧ x + 1 = 0 ∨ 0 < k1 + 1 + 1 ∧ x + 1 = noted.getD (k1 + 1 + 1 - 1) default + 1)) := by
            have hx01 := HX01.out
            exact ⟨by omega, .inr ⟨by omega, by rw [Nat.add_sub_cancel, HX.out]⟩⟩
          go_wp2
          go_roundg (noted.length - (k1 + 1 + 1))
          case measure => omega
          case rel => exact ⟨k1 + 1 + 1, rfl, by omega, by go_num, ⟨x + 1, HX1.out, HY⟩, hW⟩
    · have HE3 : Hid (R = (bothL cells.length old noted 0 cells && roots.all (rootOk cells.length))) := by
        unfold Hid
        rw [HE2.out, HL.out, List.drop_eq_nil_of_le (by omega)]; rfl
      have HWL := hideT' hW
      clear hls HL hl0
      go_wp2_with fail
      go_loopg [60] cells.length (fun g i wr => ∃ k : Nat, g = cells.length - k ∧ k ≤ cells.length ∧ i = .int .i64 (k : Int) ∧ Hid (bothL cells.length old noted 0 cells = bothL cells.length old noted k (cells.drop k)) ∧ Below (w.heap.size + 1) (w.alloc (.cells #[.int .i64 old, .slice o1 cells.length c1, .slice o2 roots.length c2, .slice o3 noted.length c3] 31)) wr)
      case atStart => exact ⟨0, rfl, by omega, by go_num, rfl, HWL.out⟩
      case round =>
        clear hW hT hsz f0 f1 f2 f3 hg hk
        obtain ⟨k, hg, hk, rfl, HL, hW⟩ := hrel
        obtain ⟨⟨⟨f0, f1⟩, f2, f3⟩, hT, hsz⟩ := HF.out wr hW
        by_cases hlt : (k : Int) < (cells.length : Int)
        · have hk' : k < cells.length := by omega
          obtain ⟨b, hob, hbl, hcl⟩ := HG1.out (by intro e; rw [e] at hk'; simp at hk')
          subst hob
          obtain ⟨d, hd⟩ : ∃ d, d = cells.getD k default := ⟨_, rfl⟩
          have hcl2 : ∀ j u, (cellL d)[j]? = some u → wr.cell? ⟨b, k * 4 + j, none⟩ = some u := fun j u hu => (hT.cell (p := ⟨b, k * 4 + j, none⟩) hbl).trans (hcl k j u hk' (by rw [← hd]; exact hu))
          have hall := bothL_drop (n := cells.length) (old := old) (noted := noted) hk' HL.out
          rw [← hd] at hall
          obtain ⟨lf, n, a, c⟩ := d
          have d0 := hcl2 0 (.bool lf) rfl
          have d1 := hcl2 1 (.int .i64 n) rfl
          have d2 := hcl2 2 (.int .i64 a) rfl
          have d3 := hcl2 3 (.int .i64 c) rfl
          rw [Nat.add_zero] at d0
          have HALL := hideT' hall
          have HNO : Hid (sndC cells.length (lf, n, a, c) = false → R = false) := fun h => by rw [HE3.out, HALL.out, h]; rfl
          have HNO2 : Hid (needC old noted k (lf, n, a, c) = false → R = false) := fun h => by rw [HE3.out, HALL.out, h]; simp
          have HYES : Hid (sndC cells.length (lf, n, a, c) = true → needC old noted k (lf, n, a, c) = true → bothL cells.length old noted 0 cells = bothL cells.length old noted (k + 1) (cells.drop (k + 1))) := fun h h2 => by rw [HALL.out, h, h2]; rfl
          have hWn := hW.alloc (by simpa using hsz) (.cells #[.bool lf, .int .i64 n, .int .i64 a, .int .i64 c] 99)
          have HTN := hideT' (HF.out _ hWn).2.1
          have HWN := hideT' hWn
          have HM3k := hideT' (HM3.out.below HTN.out)
          have hkn : (cells.length : Int) - 1 ≤ 200 := by omega
          obtain ⟨⟨n0, n1⟩, _, n3⟩ := (HF.out _ hWn).1
          clear hd hcl hcl2 hall f0 f1 f2 f3 hWn hW hT
          cases lf with
          | true =>
            by_cases ha : a = 0
            · subst ha
              by_cases hc : c = 0
              · subst hc
                have HY := hideT' (HYES.out (by simp [sndC]) (by simp [needC, namedC]))
                go_wp2
                go_roundg (cells.length - (k + 1))
                case measure => omega
                case rel => exact ⟨k + 1, rfl, by omega, by go_num, HY, HWN.out⟩
              · have hcb : (c != 0) = true := by simp [hc]
                have HN := hideT' (HNO.out (by simp [sndC, hc]))
                go_wp2
                go_ret
                exact ⟨by rw [HN.out]; rfl, HTN.out⟩
            · have hab : (a != 0) = true := by simp [ha]
              have HN := hideT' (HNO.out (by simp [sndC, ha]))
              go_wp2
              go_ret
              exact ⟨by rw [HN.out]; rfl, HTN.out⟩
          | false =>
            by_cases hn : n = 0
            · subst hn
              go_wp2_with fail
              refine (l1In_any a 0 ((cells.length : Int) - 1) _).mono ?_
              rintro e w2 ⟨rfl, rfl⟩
              obtain ⟨q1, hq1⟩ : ∃ q, q = (decide ((0 : Int) ≤ a) && decide (a ≤ (cells.length : Int) - 1)) := ⟨_, rfl⟩
              rw [← hq1]
              have HQ1 := hideT' hq1
              clear hq1
              cases q1 with
              | false =>
                have HN := hideT' (HNO.out (by unfold sndC rootOk; simp only; rw [← HQ1.out]; simp))
                go_wp2
                go_ret
                exact ⟨by rw [HN.out]; rfl, HTN.out⟩
              | true =>
              go_wp2_with fail
              refine (l1In_any c 0 ((cells.length : Int) - 1) _).mono ?_
              rintro e w3 ⟨rfl, rfl⟩
              obtain ⟨q2, hq2⟩ : ∃ q, q = (decide ((0 : Int) ≤ c) && decide (c ≤ (cells.length : Int) - 1)) := ⟨_, rfl⟩
              rw [← hq2]
              have HQ2 := hideT' hq2
              clear hq2
              cases q2 with
              | false =>
                have HN := hideT' (HNO.out (by unfold sndC rootOk; simp only; rw [← HQ1.out, ← HQ2.out]; simp))
                go_wp2
                go_ret
                exact ⟨by rw [HN.out]; rfl, HTN.out⟩
              | true =>
                have HSN : Hid (sndC cells.length (false, 0, a, c) = true) := by unfold Hid sndC rootOk; simp only; rw [← HQ1.out, ← HQ2.out]; simp
                by_cases hko : (k : Int) < old
                · by_cases hnm : namedC old (false, 0, a, c) = true
                  · obtain ⟨q3, hq3⟩ : ∃ q, q = decide ((k : Int) ∈ noted) := ⟨_, rfl⟩
                    have HQ3 := hideT' hq3
                    have HNC : Hid (needC old noted k (false, 0, a, c) = q3) := by unfold Hid needC; rw [hnm, decide_eq_true hko, HQ3.out]; rfl
                    have HLC : Hid (Calls Tryd.prog 58 #[.slice o3 noted.length c3, .int .i64 (k : Int)] (wr.alloc (.cells #[.bool false, .int .i64 0, .int .i64 a, .int .i64 c] 99)) fun e w' => e = .returned (.bool q3) ∧ w' = (wr.alloc (.cells #[.bool false, .int .i64 0, .int .i64 a, .int .i64 c] 99))) := by rw [hq3]; exact lcHasY_any noted _ (k : Int) _ HM3k.out hl3
                    clear hq3
                    have hor : old ≤ a ∨ (¬ old ≤ a ∧ old ≤ c) := by
                      unfold namedC at hnm
                      simp only [Bool.not_false, Bool.true_and, Bool.or_eq_true, decide_eq_true_eq] at hnm
                      omega
                    clear hnm
                    rcases hor with ha | ⟨ha, hc⟩
                    · go_wp2_with fail
                      refine HLC.out.mono ?_
                      rintro e w4 ⟨rfl, rfl⟩
                      cases q3 with
                      | false =>
                        have HN := hideT' (HNO2.out HNC.out)
                        go_wp2
                        go_ret
                        exact ⟨by rw [HN.out]; rfl, HTN.out⟩
                      | true =>
                        have HY := hideT' (HYES.out HSN.out HNC.out)
                        go_wp2
                        go_roundg (cells.length - (k + 1))
                        case measure => omega
                        case rel => exact ⟨k + 1, rfl, by omega, by go_num, HY, HWN.out⟩
                    · go_wp2_with fail
                      refine HLC.out.mono ?_
                      rintro e w4 ⟨rfl, rfl⟩
                      cases q3 with
                      | false =>
                        have HN := hideT' (HNO2.out HNC.out)
                        go_wp2
                        go_ret
                        exact ⟨by rw [HN.out]; rfl, HTN.out⟩
                      | true =>
                        have HY := hideT' (HYES.out HSN.out HNC.out)
                        go_wp2
                        go_roundg (cells.length - (k + 1))
                        case measure => omega
                        case rel => exact ⟨k + 1, rfl, by omega, by go_num, HY, HWN.out⟩
                  · have HNC : Hid (needC old noted k (false, 0, a, c) = true) := by unfold Hid needC; rw [Bool.eq_false_iff.2 hnm, Bool.and_false]; rfl
                    have hor : ¬ old ≤ a ∧ ¬ old ≤ c := by
                      unfold namedC at hnm
                      simp only [Bool.not_false, Bool.true_and, Bool.or_eq_true, decide_eq_true_eq] at hnm
                      omega
                    have hoa := hor.1
                    have hoc := hor.2
                    have HY := hideT' (HYES.out HSN.out HNC.out)
                    clear hnm hor
                    go_wp2
                    go_roundg (cells.length - (k + 1))
                    case measure => omega
                    case rel => exact ⟨k + 1, rfl, by omega, by go_num, HY, HWN.out⟩
                · have HNC : Hid (needC old noted k (false, 0, a, c) = true) := by unfold Hid needC; rw [decide_eq_false hko]; rfl
                  have HY := hideT' (HYES.out HSN.out HNC.out)
                  go_wp2
                  go_roundg (cells.length - (k + 1))
                  case measure => omega
                  case rel => exact ⟨k + 1, rfl, by omega, by go_num, HY, HWN.out⟩
            · have hnb : (n != 0) = true := by simp [hn]
              have HN := hideT' (HNO.out (by simp [sndC, hn]))
              go_wp2
              go_ret
              exact ⟨by rw [HN.out]; rfl, HTN.out⟩
        · have HE4 : Hid (R = roots.all (rootOk cells.length)) := by
            unfold Hid
            rw [HE3.out, HL.out, List.drop_eq_nil_of_le (by omega)]; rfl
          have HWL := hideT' hW
          go_wp2_with fail
          go_loopg [141] roots.length (fun g i wr => ∃ k : Nat, g = roots.length - k ∧ k ≤ roots.length ∧ i = .int .i64 (k : Int) ∧ Hid (roots.all (rootOk cells.length) = (roots.drop k).all (rootOk cells.length)) ∧ Below (w.heap.size + 1) (w.alloc (.cells #[.int .i64 old, .slice o1 cells.length c1, .slice o2 roots.length c2, .slice o3 noted.length c3] 31)) wr)
          case atStart => exact ⟨0, rfl, by omega, by go_num, rfl, HWL.out⟩
          case round =>
            clear hW hT hsz f0 f1 f2 f3
            obtain ⟨j, hg2, hj, rfl, HL2, hW⟩ := hrel
            obtain ⟨⟨⟨f0, f1⟩, f2, f3⟩, hT, hsz⟩ := HF.out wr hW
            by_cases hltj : (j : Int) < (roots.length : Int)
            · have hj' : j < roots.length := by omega
              obtain ⟨b, hob, hbl, hcl⟩ := HG2.out (by intro e; rw [e] at hj'; simp at hj')
              subst hob
              obtain ⟨r, hr⟩ : ∃ r, r = roots.getD j default := ⟨_, rfl⟩
              have hcell : wr.cell? ⟨b, j, none⟩ = some (.int .i64 r) := by
                have := hcl j 0 (.int .i64 (roots.getD j default)) hj' rfl
                rw [Nat.mul_one, Nat.add_zero, ← hr] at this
                exact (hT.cell (p := ⟨b, j, none⟩) hbl).trans this
              have hall := rootsOk_drop hj' HL2.out
              rw [← hr] at hall
              have HALL := hideT' hall
              clear hr hcl hall f0 f2 f3
              go_wp2_with fail
              refine (l1In_any r 0 ((cells.length : Int) - 1) _).mono ?_
              rintro e w2 ⟨rfl, rfl⟩
              obtain ⟨q1, hq1⟩ : ∃ q, q = (decide ((0 : Int) ≤ r) && decide (r ≤ (cells.length : Int) - 1)) := ⟨_, rfl⟩
              rw [← hq1]
              have HQ1 := hideT' hq1
              clear hq1
              cases q1 with
              | false =>
                have HN : Hid (R = false) := by unfold Hid; rw [HE4.out, HALL.out]; unfold rootOk; rw [← HQ1.out]; rfl
                go_wp2
                go_ret
                exact ⟨by rw [HN.out]; rfl, hT⟩
              | true =>
                have HY : Hid (roots.all (rootOk cells.length) = (roots.drop (j + 1)).all (rootOk cells.length)) := by unfold Hid; rw [HALL.out]; unfold rootOk; rw [← HQ1.out]; rfl
                go_wp2
                go_roundg (roots.length - (j + 1))
                case measure => omega
                case rel => exact ⟨j + 1, rfl, by omega, by go_num, HY, hW⟩
            · have HY : Hid (R = true) := by
                unfold Hid
                rw [HE4.out, HL2.out, List.drop_eq_nil_of_le (by omega)]; rfl
              go_wp2
              go_ret
              exact ⟨by rw [HY.out]; rfl, hT⟩
end Go.Proofs.YtelciainidklgaaDoor
