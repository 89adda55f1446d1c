/-
  The texts RdList, IrFact, IrMem, IrAdd, ImplDataText, IrStr, RdAll, one behind the other.
-/
import Derived.Test.YtnmofolhfbldjaaGreatDoorPkRdStr
import Derived.Test.YtnmofolhfbldjaaGreatDoorPkAppDatum
import Derived.Test.YtnmofolhfbldjaaGreatDoorShelfCut
import Derived.Test.YtnmofolhfbldjaaGreatDoorPkSeats

/-
  The model's reader: a list.
-/
namespace Go.Proofs.YtnmofolhfbldjaaGreatDoor
open Go.RowKit
set_option linter.unusedVariables false

/-- Nodes ahead of a list's others. -/
def ahead (ps : List Dm) : Option (Nat × Bool × List Dm) → Option (Nat × Bool × List Dm)
  | none => none
  | some (a', d, qs) => some (a', d, ps ++ qs)
theorem ahead_nil (r : Option (Nat × Bool × List Dm)) : ahead [] r = r := by
  match r with
  | none => rfl
  | some (a', d, qs) => rfl
theorem ahead_app (ps qs : List Dm) (r : Option (Nat × Bool × List Dm)) : ahead (ps ++ qs) r = ahead ps (ahead qs r) := by
  match r with
  | none => rfl
  | some (a', d, rs) => simp [ahead]
theorem resL_ahead {w : World} {B b : Nat} {s : ByteArray} {out ps : List Dm} {k : Nat} {r : Option (Nat × Bool × List Dm)} (h : ResL w B b s (out ++ ps) k r) : ResL w B b s out k (ahead ps r) := by
  match r with
  | none => exact h
  | some (a', d, qs) =>
    have h1 : St w B b s (a' : Int) (dotAt (out ++ ps ++ qs) k d) 0 := h
    rw [List.append_assoc] at h1
    exact h1
theorem listF_end {s : ByteArray} {f a k : Nat} {deep : Int} {n : Nat} (h : skipP s a = s.size) : listF s f a k deep n = none := by
  cases f with
  | zero => rw [listF]
  | succ f => rw [listF, if_pos h]
theorem listF_close {s : ByteArray} {f a k : Nat} {deep : Int} {n : Nat} (h0 : skipP s a ≠ s.size) (h : byteAt s (skipP s a) = 41) : listF s (f + 1) a k deep n = some (skipP s a + 1, false, []) := by
  rw [listF, if_neg h0, if_pos h]
theorem listF_dot {s : ByteArray} {f a k : Nat} {deep : Int} {n : Nat} (h0 : skipP s a ≠ s.size) (h : byteAt s (skipP s a) ≠ 41) (hd : isDot s (skipP s a) = true) : listF s (f + 1) a k deep n = dotR s f (skipP s a) k deep n := by
  rw [listF, if_neg h0, if_neg h, if_pos hd]
  rfl
theorem listF_one {s : ByteArray} {f a k : Nat} {deep : Int} {n : Nat} (h0 : skipP s a ≠ s.size) (h : byteAt s (skipP s a) ≠ 41) (hd : isDot s (skipP s a) = false) : listF s (f + 1) a k deep n = match oneF s f (skipP s a) k deep n with
    | none => none
    | some (a', ps) => ahead ps (listF s f a' k deep (n + ps.length)) := by
  rw [listF, if_neg h0, if_neg h, if_neg (by rw [hd]; decide)]
  split
  · rename_i e; rw [e]
  · rename_i a' ps e
    rw [e]
    simp only []
    cases listF s f a' k deep (n + ps.length) <;> rfl

set_option maxHeartbeats 4000000 in
set_option maxRecDepth 100000 in
theorem list_st (f : Nat) (IH : ∀ g, g < f → OneC g) : ListC f := by
  intro B b s a out k deep w hs ha hf hn hk hd h
  have HIH := hideT' IH
  have HN := hideT' hn
  have HK := hideT' hk
  have HD := hideT' hd
  clear IH hn hk hd
  go_enter Tryz.func18, Tryz.ntmps18
  go_wp2_with fail
  go_loopg [6] f (fun m x wr => ∃ j : Nat, x = .int .i64 (j : Int) ∧ j ≤ 301 ∧ Below B w wr ∧ ((∃ (g a1 : Nat) (ps : List Dm), m = g ∧ g ≤ f ∧ a1 ≤ s.size ∧ 2 * (s.size - a1) + 2 ≤ g ∧ j ≤ ps.length ∧ (j = 0 → ps.length = 0) ∧ Hid (out.length + ps.length ≤ 300) ∧ listF s f a k (deep : Int) out.length = ahead ps (listF s g a1 k (deep : Int) (out.length + ps.length)) ∧ St wr B b s (a1 : Int) (out ++ ps) 0) ∨ (m = 0 ∧ listF s f a k (deep : Int) out.length = none ∧ Bad wr B b s)))
  case atStart => exact ⟨0, rfl, by omega, Below.refl _ _, .inl ⟨f, a, [], rfl, Nat.le_refl _, ha, hf, by simp, by simp, HN.out, by rw [ahead_nil]; rfl, by rw [List.append_nil]; exact h⟩⟩
  case round =>
    obtain ⟨j, rfl, hj, hW, hcase⟩ := hrel
    clear h
    rcases hcase with ⟨g0, a1, ps, hm, hgf, ha1, hg2, hjp, hj0, HL3, hR, hS⟩ | ⟨hm, hR, hBad⟩
    · obtain ⟨g, rfl⟩ : ∃ g, g0 = g + 1 := ⟨g0 - 1, by omega⟩
      have HIHg : Hid (OneC g) := HIH.out g (by omega)
      have HR := hideT' hR
      have HJ : Hid ((j : Int) = 0 ↔ (out ++ ps).length = k + 1) := by
        unfold Hid
        have := HK.out
        rw [List.length_append]
        constructor
        · intro e; have := hj0 (by omega); omega
        · intro e; omega
      obtain ⟨q, hqe⟩ : ∃ q, q = skipP s a1 := ⟨_, rfl⟩
      have hqq := skipP_le s a1 ha1
      rw [← hqe] at hqq
      obtain ⟨hq0, hq⟩ := hqq
      have HQ := hideT' hqe
      have HQA := hideT' hq0
      have HG2 := hideT' hg2
      have HJ0 := hideT' hj0
      have HJP := hideT' hjp
      clear hR hqe hq0 hg2 hj0 hjp
      obtain ⟨_, v1, hR1, ho1⟩ := (show St wr B b s (a1 : Int) (out ++ ps) 0 from hS)
      have c3 := r_3 hR1
      have HS := hideT' hS
      clear hS ho1
      go_wp2_with fail
      refine (skip_st B b s a1 0 (out ++ ps) _ hs ha1 (by exact HS.out)).mono ?_
      rintro e w2 ⟨rfl, hS2, hW2⟩
      rw [← HQ.out] at hS2
      have HS2 := hideT' hS2
      have hW2' := hW.trans hW2
      obtain ⟨hB, v2, hR2, ho2⟩ := hS2
      have d0 := r_0 hR2
      have d1 := r_1 hR2
      have d3 := r_3 hR2
      clear c3 hR1 hW hW2
      by_cases he : (q : Int) = (s.size : Int)
      · have HZ : Hid (listF s f a k (deep : Int) out.length = none) := by unfold Hid; rw [HR.out, listF_end (by rw [← HQ.out]; omega)]; rfl
        go_wp2_with fail
        go_quiet (fail)
        go_wp2_with fail
        refine (bad_st B b s q 0 2 (out ++ ps) _ (by exact HS2.out)).mono ?_
        rintro e w6 ⟨rfl, hS6, hW6⟩
        go_wp2
        first | go_end0 | ((try simp only [Exit.inBlock, Exit.then]); refine bodyPost_ret (results_none rfl _ _ _) rfl ?_)
        exact ⟨rfl, resL_none HZ.out (bad_of (show (2 : Int) ≠ 0 by decide) hq (by rw [List.length_append]; exact HL3.out) (by exact hS6)), (below_drewN hW2' _).trans hW6⟩
      · have hql : q < s.size := by omega
        have hqi : (q : Int) < (s.size : Int) := by omega
        have hqn : ((q : Int) == (s.size : Int)) = false := beq_eq_false_iff_ne.2 he
        have HB := hideT' (byteAt_eq hql)
        have HQ0 : Hid (skipP s a1 ≠ s.size) := by unfold Hid; rw [← HQ.out]; omega
        clear he
        by_cases h41 : s[q] = 41
        · have hb41 : (s[q].toNat : Int) = 41 := by rw [h41]; rfl
          have HZ : Hid (listF s f a k (deep : Int) out.length = some (q + 1, false, ps)) := by
            unfold Hid
            rw [HR.out, listF_close HQ0.out (by rw [← HQ.out, HB.out]; exact h41), ← HQ.out]
            simp [ahead]
          clear h41
          go_wp2_with fail
          go_quiet (fail)
          go_wp2_with fail
          go_quiet (fail)
          go_wp2_with (refine store_at rfl 3 _ _ rfl rfl b 1 (.int .i64 ((q : Int) + 1)) rfl rfl one_int rfl 36 (rC s q v2 0) hR2 (show 1 < 4 by omega) ?_; intro w6 hR6 hg6 hs6)
          first | go_end0 | ((try simp only [Exit.inBlock, Exit.then]); refine bodyPost_ret (results_none rfl _ _ _) rfl ?_)
          obtain ⟨hS6, hW6⟩ := St.own (w := w2) (w' := w6) (a' := ((q + 1 : Nat) : Int)) (c' := 0) hB hR2 ho2 (by exact hR6) (grown_ahead _ hg6)
          refine ⟨rfl, ?_, hW2'.trans hW6⟩
          rw [HZ.out]
          exact hS6
        · have n41 : ((s[q].toNat : Int) == 41) = false := byte_ne (n := 41) (by decide) h41
          have HQ41 : Hid (byteAt s (skipP s a1) ≠ 41) := by unfold Hid; rw [← HQ.out, HB.out]; exact h41
          clear h41
          by_cases h46 : s[q] = 46
          · have hb46 : (s[q].toNat : Int) = 46 := by rw [h46]; rfl
            have B46 : Hid (byteAt s q = 46) := by unfold Hid; rw [HB.out]; exact h46
            clear h46
            obtain ⟨q1, hq1⟩ : ∃ q1 : Nat, q1 = q + 1 := ⟨_, rfl⟩
            have hwq : IntKind.i64.wrap ((q : Int) + 1) = (q1 : Int) := by rw [IntKind.wrap_i64]; omega
            have HQ1 := hideT' hq1
            have hq1s : q1 ≤ s.size := by omega
            clear hq1
            by_cases hqe1 : (q1 : Int) = (s.size : Int)
            · have HDOT : Hid (isDot s (skipP s a1) = true) := by unfold Hid isDot; rw [← HQ.out, B46.out, ← HQ1.out, decide_eq_true (by omega : q1 = s.size)]; rfl
              go_wp2_with fail
              go_quiet (fail)
              go_wp2_with fail
              go_quiet (fail)
              go_wp2_with fail
              go_quiet (fail)
              go_wp2_with fail
              refine (dot_st g HIHg.out B b s q (out ++ ps) k deep (j : Int) _ hs hql (by have := HG2.out; have := HQA.out; omega) (by rw [List.length_append]; exact HL3.out) (by rw [List.length_append]; have := HK.out; omega) HD.out HJ.out (by exact HS2.out)).mono ?_
              rintro e w6 ⟨rfl, hS6, hW6⟩
              go_wp2
              first | go_end0 | ((try simp only [Exit.inBlock, Exit.then]); refine bodyPost_ret (results_none rfl _ _ _) rfl ?_)
              refine ⟨rfl, ?_, (below_drewN hW2' _).trans hW6⟩
              rw [HR.out]
              rw [List.length_append] at hS6
              have e8 := listF_dot (f := g) (k := k) (deep := (deep : Int)) (n := out.length + ps.length) HQ0.out HQ41.out HDOT.out
              rw [e8]
              have hq8 := HQ.out
              rw [← hq8]
              exact resL_ahead hS6
            · have hq1l : q1 < s.size := by omega
              have hq1i : (q1 : Int) < (s.size : Int) := by omega
              have hq1n : ((q1 : Int) == (s.size : Int)) = false := beq_eq_false_iff_ne.2 hqe1
              have HB1 := hideT' (byteAt_eq hq1l)
              clear hqe1
              cases hst : stopB s[q1] with
              | true =>
                have HDOT : Hid (isDot s (skipP s a1) = true) := by unfold Hid isDot; rw [← HQ.out, B46.out, ← HQ1.out, HB1.out, hst]; simp
                have HST := hideT' hst
                clear hst
                go_wp2_with fail
                go_quiet (fail)
                go_wp2_with fail
                go_quiet (fail)
                go_wp2_with fail
                go_quiet ((go_at_call 33; first | exact Calls.quiet_of_same (l3Stops_any s[q1] _ _ rfl) | exact (l3Stops_any s[q1] _ _ rfl).mono (fun e w h => ⟨h.1, _, h.2⟩)))
                rw [HST.out]
                go_wp2_with fail
                refine (dot_st g HIHg.out B b s q (out ++ ps) k deep (j : Int) _ hs hql (by have := HG2.out; have := HQA.out; omega) (by rw [List.length_append]; exact HL3.out) (by rw [List.length_append]; have := HK.out; omega) HD.out HJ.out (by exact HS2.out)).mono ?_
                rintro e w6 ⟨rfl, hS6, hW6⟩
                go_wp2
                first | go_end0 | ((try simp only [Exit.inBlock, Exit.then]); refine bodyPost_ret (results_none rfl _ _ _) rfl ?_)
                refine ⟨rfl, ?_, (below_drewN hW2' _).trans hW6⟩
                rw [HR.out]
                rw [List.length_append] at hS6
                have e8 := listF_dot (f := g) (k := k) (deep := (deep : Int)) (n := out.length + ps.length) HQ0.out HQ41.out HDOT.out
                rw [e8]
                have hq8 := HQ.out
                rw [← hq8]
                exact resL_ahead hS6
              | false =>
                have HDOT : Hid (isDot s (skipP s a1) = false) := by unfold Hid isDot; rw [← HQ.out, ← HQ1.out, HB1.out, hst, decide_eq_false (by omega : ¬ q1 = s.size)]; simp
                have HST := hideT' hst
                clear hst
                go_wp2_with fail
                go_quiet (fail)
                go_wp2_with fail
                go_quiet (fail)
                go_wp2_with fail
                go_quiet ((go_at_call 33; first | exact Calls.quiet_of_same (l3Stops_any s[q1] _ _ rfl) | exact (l3Stops_any s[q1] _ _ rfl).mono (fun e w h => ⟨h.1, _, h.2⟩)))
                rw [HST.out]
                go_wp2_with fail
                refine (HIHg.out B b s q (out ++ ps) (k : Int) deep _ hs hq (by have := HG2.out; have := HQA.out; omega) (by rw [List.length_append]; exact HL3.out) HD.out (by exact HS2.out)).mono ?_
                rintro e w6 ⟨rfl, hS6, hW6⟩
                have e8 := listF_one (f := g) (k := k) (deep := (deep : Int)) (n := out.length + ps.length) HQ0.out HQ41.out HDOT.out
                rw [← HQ.out] at e8
                rw [List.length_append] at hS6
                have hW6' := (below_drewN hW2' _).trans hW6
                cases hone : oneF s g q (k : Int) (deep : Int) (out.length + ps.length) with
                | none =>
                  rw [hone] at hS6 e8
                  have HRN : Hid (listF s f a k (deep : Int) out.length = none) := by unfold Hid; rw [HR.out, e8]; rfl
                  have HBAD : Hid (Bad w6 B b s) := hS6
                  clear hone e8 hS6
                  go_wp2
                  go_roundg 0
                  case measure => omega
                  case rel => exact ⟨j + 1, rfl, by have := HJP.out; have := HL3.out; omega, hW6', .inr ⟨rfl, HRN.out, HBAD.out⟩⟩
                | some r =>
                  obtain ⟨a2, qs⟩ := r
                  rw [hone] at hS6 e8
                  have hfa := oneF_le g q (k : Int) (deep : Int) (out.length + ps.length) a2 qs hq HL3.out hone
                  obtain ⟨x1, x2, x3, x4, _⟩ := hfa
                  have HRN : Hid (listF s f a k (deep : Int) out.length = ahead (ps ++ qs) (listF s g a2 k (deep : Int) (out.length + (ps ++ qs).length))) := by
                    unfold Hid
                    rw [HR.out, e8, ahead_app, List.length_append]
                    simp only [Nat.add_assoc]
                  have HS6 : Hid (St w6 B b s (a2 : Int) (out ++ (ps ++ qs)) 0) := by
                    have h1 : St w6 B b s (a2 : Int) (out ++ ps ++ qs) 0 := hS6
                    rw [List.append_assoc] at h1
                    exact h1
                  have HX4 := hideT' x4
                  have HX3 := hideT' x3
                  clear hone e8 hS6 x3 x4
                  go_wp2
                  go_roundg g
                  case measure => omega
                  case rel =>
                    refine ⟨j + 1, rfl, by have := HJP.out; have := HL3.out; omega, hW6', .inl ⟨g, a2, ps ++ qs, rfl, by omega, x2, by have := HG2.out; have := HQA.out; omega, ?_, ?_, ?_, HRN.out, HS6.out⟩⟩
                    · have := HX4.out; have := HJP.out; rw [List.length_append]; omega
                    · have := HX4.out; have := HJP.out; rw [List.length_append]; omega
                    · have := HX3.out; rw [List.length_append]; unfold Hid; omega
          · have n46 : ((s[q].toNat : Int) == 46) = false := byte_ne (n := 46) (by decide) h46
            have HDOT : Hid (isDot s (skipP s a1) = false) := by
              unfold Hid isDot
              rw [← HQ.out, HB.out, beq_eq_false_iff_ne.2 h46]; rfl
            clear h46
            go_wp2_with fail
            go_quiet (fail)
            go_wp2_with fail
            go_quiet (fail)
            go_wp2_with fail
            go_quiet (fail)
            go_wp2_with fail
            refine (HIHg.out B b s q (out ++ ps) (k : Int) deep _ hs hq (by have := HG2.out; have := HQA.out; omega) (by rw [List.length_append]; exact HL3.out) HD.out (by exact HS2.out)).mono ?_
            rintro e w6 ⟨rfl, hS6, hW6⟩
            have e8 := listF_one (f := g) (k := k) (deep := (deep : Int)) (n := out.length + ps.length) HQ0.out HQ41.out HDOT.out
            rw [← HQ.out] at e8
            rw [List.length_append] at hS6
            have hW6' := (below_drewN hW2' _).trans hW6
            cases hone : oneF s g q (k : Int) (deep : Int) (out.length + ps.length) with
            | none =>
              rw [hone] at hS6 e8
              have HRN : Hid (listF s f a k (deep : Int) out.length = none) := by unfold Hid; rw [HR.out, e8]; rfl
              have HBAD : Hid (Bad w6 B b s) := hS6
              clear hone e8 hS6
              go_wp2
              go_roundg 0
              case measure => omega
              case rel => exact ⟨j + 1, rfl, by have := HJP.out; have := HL3.out; omega, hW6', .inr ⟨rfl, HRN.out, HBAD.out⟩⟩
            | some r =>
              obtain ⟨a2, qs⟩ := r
              rw [hone] at hS6 e8
              have hfa := oneF_le g q (k : Int) (deep : Int) (out.length + ps.length) a2 qs hq HL3.out hone
              obtain ⟨x1, x2, x3, x4, _⟩ := hfa
              have HRN : Hid (listF s f a k (deep : Int) out.length = ahead (ps ++ qs) (listF s g a2 k (deep : Int) (out.length + (ps ++ qs).length))) := by
                unfold Hid
                rw [HR.out, e8, ahead_app, List.length_append]
                simp only [Nat.add_assoc]
              have HS6 : Hid (St w6 B b s (a2 : Int) (out ++ (ps ++ qs)) 0) := by
                have h1 : St w6 B b s (a2 : Int) (out ++ ps ++ qs) 0 := hS6
                rw [List.append_assoc] at h1
                exact h1
              have HX4 := hideT' x4
              have HX3 := hideT' x3
              clear hone e8 hS6 x3 x4
              go_wp2
              go_roundg g
              case measure => omega
              case rel =>
                refine ⟨j + 1, rfl, by have := HJP.out; have := HL3.out; omega, hW6', .inl ⟨g, a2, ps ++ qs, rfl, by omega, x2, by have := HG2.out; have := HQA.out; omega, ?_, ?_, ?_, HRN.out, HS6.out⟩⟩
                · have := HX4.out; have := HJP.out; rw [List.length_append]; omega
                · have := HX4.out; have := HJP.out; rw [List.length_append]; omega
                · have := HX3.out; rw [List.length_append]; unfold Hid; omega
    · obtain ⟨a', out', c', hc, ha', hn', hSt⟩ := hBad
      have hc1 : (c' == 0) = false := beq_eq_false_iff_ne.2 hc
      have HR := hideT' hR
      have HB : Hid (Bad wr B b s) := ⟨a', out', c', hc, ha', hn', hSt⟩
      obtain ⟨_, v1, hR1, ho1⟩ := hSt
      have c3 := r_3 hR1
      clear hR hc ho1
      go_wp2
      go_end0
      exact ⟨rfl, resL_none HR.out HB.out, hW⟩
end Go.Proofs.YtnmofolhfbldjaaGreatDoor

/-
  The reader: plain facts (what is passed over twice; a word that is a dot).
-/
namespace Go.Proofs.YtnmofolhfbldjaaGreatDoor
open Go.RowKit
set_option linter.unusedVariables false

theorem skipF_stop {s : ByteArray} : ∀ (f a : Nat) (c : Bool), a + f = s.size → skipF s f a c = s.size ∨ (skipF s f a c < s.size ∧ byteAt s (skipF s f a c) ≠ 10 ∧ byteAt s (skipF s f a c) ≠ 59 ∧ ¬ (byteAt s (skipF s f a c) = 32 ∨ byteAt s (skipF s f a c) = 9 ∨ byteAt s (skipF s f a c) = 13))
  | 0, a, c, h => .inl (by rw [skipF]; omega)
  | f + 1, a, c, h => by
    rw [skipF]
    split
    · exact skipF_stop f (a + 1) false (by omega)
    · split
      · exact skipF_stop f (a + 1) true (by omega)
      · split
        · exact skipF_stop f (a + 1) true (by omega)
        · split
          · exact skipF_stop f (a + 1) false (by omega)
          · next h1 h2 h3 h4 => exact .inr ⟨by omega, h1, h3, h4⟩
theorem skip_skip {s : ByteArray} {a : Nat} (ha : a ≤ s.size) : skipP s (skipP s a) = skipP s a := by
  have hst := skipF_stop (s := s) (s.size - a) a false (by omega)
  rw [show skipF s (s.size - a) a false = skipP s a from rfl] at hst
  rcases hst with h | ⟨h0, h1, h2, h3⟩
  · have h' : skipP s a = s.size := h
    rw [h']; unfold skipP; rw [Nat.sub_self, skipF]
  · have h0' : skipP s a < s.size := h0
    show skipF s (s.size - skipP s a) (skipP s a) false = skipP s a
    rw [show s.size - skipP s a = (s.size - (skipP s a + 1)) + 1 by omega, skipF, if_neg h1, if_neg (by decide), if_neg h2, if_neg h3]
theorem oneF_skip {s : ByteArray} {a : Nat} (ha : a ≤ s.size) (f : Nat) (up deep : Int) (n : Nat) : oneF s f (skipP s a) up deep n = oneF s f a up deep n := by
  cases f with
  | zero => rw [oneF, oneF]
  | succ f => rw [oneF, oneF, skip_skip ha]
theorem ext_len (s : ByteArray) (p q : Nat) (hq : q ≤ s.size) : (s.extract p q).toList.length = q - p := by
  rw [ByteArray.toList_eq]
  have := ByteArray.size_extract (a := s) (b := p) (e := q)
  simp only [Array.length_toList]
  have e : (s.extract p q).data.size = (s.extract p q).size := rfl
  rw [e, this]
  omega
theorem ext_hd (s : ByteArray) (p q : Nat) (hp : p < q) (hq : q ≤ s.size) : (s.extract p q).toList[0]? = some (byteAt s p) := by
  rw [ByteArray.toList_eq, ByteArray.data_extract, byteAt_eq (by omega)]
  rw [Array.getElem?_toList, Array.getElem?_extract]
  have h1 : p < s.data.size := by have : s.size = s.data.size := rfl; omega
  simp
  exact ⟨by omega, by rw [Array.getElem?_eq_getElem h1]; rfl⟩
theorem word_dot {s : ByteArray} {p : Nat} (hp : p < s.size) : ((s.extract p (wordP s p)).toList == [46]) = isDot s p := by
  have hl := wordP_le s p (by omega)
  have e1 := ext_len s p (wordP s p) hl.2
  by_cases h46 : byteAt s p = 46
  · have hst : wordP s p = wordP s (p + 1) := by rw [word_step hp, h46]; rfl
    by_cases he : p + 1 = s.size
    · have hw : wordP s p = p + 1 := by rw [hst, word_end he]
      have h0 := ext_hd s p (wordP s p) (by omega) hl.2
      have hd : isDot s p = true := by unfold isDot; rw [h46, decide_eq_true he]; rfl
      rw [hd, beq_iff_eq]
      rw [h46] at h0
      generalize (s.extract p (wordP s p)).toList = l at *
      match l, e1, h0 with
      | [x], _, h0 => simp at h0; rw [h0]
      | [], e1, _ => simp at e1; omega
      | x :: y :: l, e1, _ => simp at e1; omega
    · cases hs : stopB (byteAt s (p + 1)) with
      | true =>
        have hw : wordP s p = p + 1 := by rw [hst, word_step (by omega), hs]; rfl
        have h0 := ext_hd s p (wordP s p) (by omega) hl.2
        have hd : isDot s p = true := by unfold isDot; rw [h46, hs]; simp
        rw [hd, beq_iff_eq]
        rw [h46] at h0
        generalize (s.extract p (wordP s p)).toList = l at *
        match l, e1, h0 with
        | [x], _, h0 => simp at h0; rw [h0]
        | [], e1, _ => simp at e1; omega
        | x :: y :: l, e1, _ => simp at e1; omega
      | false =>
        have hw : wordP s p = wordP s (p + 2) := by rw [hst, word_step (by omega), hs]; rfl
        have hl2 := wordP_le s (p + 2) (by omega)
        have hd : isDot s p = false := by unfold isDot; rw [hs, decide_eq_false he]; simp
        rw [hd, beq_eq_false_iff_ne]
        intro e
        rw [e] at e1
        simp at e1
        omega
  · have hd : isDot s p = false := by unfold isDot; rw [beq_eq_false_iff_ne.2 h46]; rfl
    rw [hd, beq_eq_false_iff_ne]
    intro e
    by_cases hw : p < wordP s p
    · have h0 := ext_hd s p (wordP s p) hw hl.2
      rw [e] at h0
      simp at h0
      exact h46 h0.symm
    · rw [e] at e1
      simp at e1
      omega
/-- What an open bracket leaves. -/
noncomputable def openR (s : ByteArray) (f p : Nat) (up deep : Int) (n : Nat) : Option (Nat × List Dm) :=
  if 300 ≤ n ∨ 25 ≤ deep then none
  else match listF s f (p + 1) n (deep + 1) (n + 1) with
    | none => none
    | some (a', d, ps) => some (a', ⟨if d then 6 else 5, ⟨#[]⟩, up⟩ :: ps)
theorem openR_full {s : ByteArray} {f p n : Nat} {up deep : Int} (h : 300 ≤ n ∨ 25 ≤ deep) : openR s f p up deep n = none := by unfold openR; rw [if_pos h]
theorem openR_none {s : ByteArray} {f p n : Nat} {up deep : Int} (h : listF s f (p + 1) n (deep + 1) (n + 1) = none) : openR s f p up deep n = none := by unfold openR; rw [h]; split <;> rfl
theorem openR_some {s : ByteArray} {f p n a' : Nat} {up deep : Int} {d : Bool} {ps : List Dm} (h0 : ¬ (300 ≤ n ∨ 25 ≤ deep)) (h : listF s f (p + 1) n (deep + 1) (n + 1) = some (a', d, ps)) : openR s f p up deep n = some (a', ⟨if d then 6 else 5, ⟨#[]⟩, up⟩ :: ps) := by unfold openR; rw [if_neg h0, h]
/-- What a quote sign leaves. -/
noncomputable def quoteR (s : ByteArray) (f p : Nat) (up deep : Int) (n : Nat) : Option (Nat × List Dm) :=
  if 299 ≤ n ∨ 25 ≤ deep then none
  else match oneF s f (p + 1) n (deep + 1) (n + 2) with
    | none => none
    | some (a', ps) => some (a', ⟨5, ⟨#[]⟩, up⟩ :: ⟨2, ⟨#[113, 117, 111, 116, 101]⟩, n⟩ :: ps)
theorem quoteR_full {s : ByteArray} {f p n : Nat} {up deep : Int} (h : 299 ≤ n ∨ 25 ≤ deep) : quoteR s f p up deep n = none := by unfold quoteR; rw [if_pos h]
theorem quoteR_none {s : ByteArray} {f p n : Nat} {up deep : Int} (h : oneF s f (p + 1) n (deep + 1) (n + 2) = none) : quoteR s f p up deep n = none := by unfold quoteR; rw [h]; split <;> rfl
theorem quoteR_some {s : ByteArray} {f p n a' : Nat} {up deep : Int} {ps : List Dm} (h0 : ¬ (299 ≤ n ∨ 25 ≤ deep)) (h : oneF s f (p + 1) n (deep + 1) (n + 2) = some (a', ps)) : quoteR s f p up deep n = some (a', ⟨5, ⟨#[]⟩, up⟩ :: ⟨2, ⟨#[113, 117, 111, 116, 101]⟩, n⟩ :: ps) := by unfold quoteR; rw [if_neg h0, h]
end Go.Proofs.YtnmofolhfbldjaaGreatDoor

/-
  The program's reader in memory; it gives up, blanks passed over, the byte where it is, a node added.
-/
namespace Go.Proofs.YtnmofolhfbldjaaGreatDoor
open Go.RowKit
set_option linter.unusedVariables false

def IAt (w : World) (b : Nat) (s : ByteArray) (a : Int) (v : Value) (c : Int) : Prop := RowAt w b 54 (rC s a v c)
theorem i_0 {w : World} {b : Nat} {s : ByteArray} {a c : Int} {v : Value} (h : IAt w b s a v c) : w.cell? ⟨b, 0, none⟩ = some (.string s) := by rw [cell_of_row w b _ _ _ _ h]; rfl
theorem i_1 {w : World} {b : Nat} {s : ByteArray} {a c : Int} {v : Value} (h : IAt w b s a v c) : w.cell? ⟨b, 1, none⟩ = some (.int .i64 a) := by rw [cell_of_row w b _ _ _ _ h]; rfl
theorem i_2 {w : World} {b : Nat} {s : ByteArray} {a c : Int} {v : Value} (h : IAt w b s a v c) : w.cell? ⟨b, 2, none⟩ = some v := by rw [cell_of_row w b _ _ _ _ h]; rfl
theorem i_3 {w : World} {b : Nat} {s : ByteArray} {a c : Int} {v : Value} (h : IAt w b s a v c) : w.cell? ⟨b, 3, none⟩ = some (.int .i64 c) := by rw [cell_of_row w b _ _ _ _ h]; rfl
/-- The variable that holds the reader's pointer. -/
def PAt (w : World) (b : Nat) : Prop := RowAt w (b + 1) 52 #[.pointer (some ⟨b, 0, none⟩)]
/-- The reader's state: where it is, the nodes. -/
def ISt (w : World) (B b : Nat) (s : ByteArray) (a : Int) (out : List Dm) : Prop :=
  B ≤ b ∧ ∃ v, IAt w b s a v 0 ∧ w.ownsRow B 39 3 v out.length (out.flatMap dmL) ∧ PAt w b
theorem ISt.own {w w' : World} {B b : Nat} {s : ByteArray} {a a' c : Int} {v : Value} {out : List Dm} (hB : B ≤ b) (hR : IAt w b s a v c) (ho : w.ownsRow B 39 3 v out.length (out.flatMap dmL)) (hP : PAt w b) (hR' : IAt w' b s a' v 0) (hg : w.grownBy w' (some b)) : ISt w' B b s a' out ∧ Below B w w' :=
  ⟨⟨hB, v, hR', own3_grown ho hg (own3_ne ho hR (by decide)), RowAt.grown hP hg (by intro e; injection e; omega)⟩, (Below.refl B w).grown hg (by have := RowAt.lt hR; omega) (by intro k hk; injection hk; omega)⟩
/-- It has given up: a panic with a code, which the reader holds. -/
def Gave (B b : Nat) (s : ByteArray) (w : World) (e : Ending) (w' : World) : Prop :=
  ∃ k : Int, k ≠ 0 ∧ e = .panicked [{ v := .iface 3 (.int .i64 k), recovered := false }] ∧ (∃ a v, IAt w' b s a v k ∧ PAt w' b) ∧ Below B w w'
theorem Gave.after {B b : Nat} {s : ByteArray} {w w1 w' : World} {e : Ending} (hB : Below B w w1) (h : Gave B b s w1 e w') : Gave B b s w e w' := by
  obtain ⟨k, h1, h2, h3, h4⟩ := h
  exact ⟨k, h1, h2, h3, hB.trans h4⟩

set_option maxHeartbeats 1000000 in
set_option maxRecDepth 100000 in
theorem giveUpI (B b : Nat) (s : ByteArray) (a k : Int) (v : Value) (w : World) (hk : k ≠ 0) (hB : B ≤ b) (hP : PAt w b) (hR : IAt w b s a v 0) :
    Calls Tryz.prog 62 #[.pointer (some ⟨b, 0, none⟩), .int .i64 k] w fun e w' => Gave B b s w e w' := by
  have hbl := RowAt.lt hR
  have HK := hideT' hk
  have HP := hideT' hP
  clear hk hP
  go_enter Tryz.func62, Tryz.ntmps62
  go_wp2_with (refine store_at rfl 3 _ _ rfl rfl b 3 (.int .i64 k) rfl rfl one_int rfl 54 (rC s a v 0) hR (show 3 < 4 by omega) ?_; intro w1 hR1 hg1 hs1)
  exact ⟨rfl, k, HK.out, rfl, ⟨a, v, hR1, RowAt.grown HP.out hg1 (by intro e; injection e; omega)⟩, (Below.refl B w).grown hg1 (by omega) (by intro k hk; injection hk; omega)⟩
theorem giveUp_any (B b : Nat) (s : ByteArray) (a k : Int) (out : List Dm) (w : World) (hk : k ≠ 0) (h : ISt w B b s a out) :
    Calls Tryz.prog 62 #[.pointer (some ⟨b, 0, none⟩), .int .i64 k] w fun e w' => Gave B b s w e w' := by
  obtain ⟨hB, v, hR, ho, hP⟩ := h
  exact giveUpI B b s a k v w hk hB hP hR

set_option maxHeartbeats 4000000 in
set_option maxRecDepth 100000 in
theorem iskip_any (b : Nat) (s : ByteArray) (a : Nat) (c : Int) (v : Value) (w : World) (hs : s.size ≤ 1500) (ha : a ≤ s.size) (hR : IAt w b s (a : Int) v c) :
    Calls Tryz.prog 29 #[.pointer (some ⟨b, 0, none⟩)] w fun e w' => e = .returned (.tuple #[]) ∧ IAt w' b s (skipP s a : Int) v c ∧ w.grownBy w' (some b) ∧ w'.heap.size = w.heap.size := by
  go_enter Tryz.func29, Tryz.ntmps29
  go_wp2_with fail
  go_loopg [2] (s.size - a) (fun g x wr => ∃ (k : Nat) (q : Bool), g = s.size - k ∧ k ≤ s.size ∧ x = .bool q ∧ Hid (skipF s (s.size - k) k q = skipP s a) ∧ IAt wr b s (k : Int) v c ∧ w.grownBy wr (some b) ∧ Aside (wr.heap.size = w.heap.size))
  case atStart => exact ⟨a, false, rfl, ha, rfl, rfl, hR, grown_refl _ _, rfl⟩
  case round =>
    obtain ⟨k, q, hg, hk, rfl, HK, hRr, hG, hZ⟩ := hrel
    have c0 := i_0 hRr
    have c1 := i_1 hRr
    clear hR
    by_cases hlt : (k : Int) < (s.size : Int)
    · have hk' : k < s.size := by omega
      have HB := hideT' (byteAt_eq hk')
      have HS : Hid (∀ q, skipF s (s.size - k) k q = if byteAt s k = 10 then skipF s (s.size - (k + 1)) (k + 1) false else if q then skipF s (s.size - (k + 1)) (k + 1) true else if byteAt s k = 59 then skipF s (s.size - (k + 1)) (k + 1) true else if byteAt s k = 32 ∨ byteAt s k = 9 ∨ byteAt s k = 13 then skipF s (s.size - (k + 1)) (k + 1) false else k) := fun q => by
        rw [show s.size - k = (s.size - (k + 1)) + 1 by omega, skipF]
      by_cases hx10 : s[k] = 10
      · have hb : (s[k].toNat : Int) = 10 := by rw [hx10]; rfl
        have HN : Hid (skipF s (s.size - (k + 1)) (k + 1) false = skipP s a) := by unfold Hid; rw [← HK.out, HS.out, if_pos (by rw [HB.out]; exact hx10)]
        clear hx10
        go_wp2_with fail
        go_quiet (fail)
        go_wp2_with fail
        go_quiet (fail)
        go_wp2_with (refine store_at rfl 3 _ _ rfl rfl b 1 (.int .i64 ((k : Int) + 1)) rfl rfl one_int rfl 54 (rC s k v c) hRr (show 1 < 4 by omega) ?_; intro w1 hR1 hg1 hs1)
        go_roundg (s.size - (k + 1))
        case measure => omega
        case rel => exact ⟨k + 1, false, rfl, by omega, rfl, HN, hR1, grown_trans hG (grown_ahead _ hg1), by have := hZ.out; unfold Aside; rw [hs1]; exact this⟩
      · have n10 : ((s[k].toNat : Int) == 10) = false := byte_ne (n := 10) (by decide) hx10
        by_cases hx59 : s[k] = 59
        · have hb : (s[k].toNat : Int) = 59 := by rw [hx59]; rfl
          have HN : Hid (skipF s (s.size - (k + 1)) (k + 1) true = skipP s a) := by
            unfold Hid; rw [← HK.out, HS.out, if_neg (by rw [HB.out]; exact hx10)]
            cases q
            · rw [if_neg (by decide), if_pos (by rw [HB.out]; exact hx59)]
            · rw [if_pos rfl]
          clear hx10 hx59 n10
          go_wp2_with fail
          go_quiet (fail)
          go_wp2_with fail
          go_quiet (fail)
          go_wp2_with (refine store_at rfl 3 _ _ rfl rfl b 1 (.int .i64 ((k : Int) + 1)) rfl rfl one_int rfl 54 (rC s k v c) hRr (show 1 < 4 by omega) ?_; intro w1 hR1 hg1 hs1)
          go_roundg (s.size - (k + 1))
          case measure => omega
          case rel => exact ⟨k + 1, true, rfl, by omega, rfl, HN, hR1, grown_trans hG (grown_ahead _ hg1), by have := hZ.out; unfold Aside; rw [hs1]; exact this⟩
        · have n59 : ((s[k].toNat : Int) == 59) = false := byte_ne (n := 59) (by decide) hx59
          cases q with
          | true =>
            have HN : Hid (skipF s (s.size - (k + 1)) (k + 1) true = skipP s a) := by unfold Hid; rw [← HK.out, HS.out, if_neg (by rw [HB.out]; exact hx10), if_pos rfl]
            clear hx10 hx59
            go_wp2_with fail
            go_quiet (fail)
            go_wp2_with fail
            go_quiet (fail)
            go_wp2_with (refine store_at rfl 3 _ _ rfl rfl b 1 (.int .i64 ((k : Int) + 1)) rfl rfl one_int rfl 54 (rC s k v c) hRr (show 1 < 4 by omega) ?_; intro w1 hR1 hg1 hs1)
            go_roundg (s.size - (k + 1))
            case measure => omega
            case rel => exact ⟨k + 1, true, rfl, by omega, rfl, HN, hR1, grown_trans hG (grown_ahead _ hg1), by have := hZ.out; unfold Aside; rw [hs1]; exact this⟩
          | false =>
            by_cases hx32 : s[k] = 32
            · have hb : (s[k].toNat : Int) = 32 := by rw [hx32]; rfl
              have hbn : ((s[k].toNat : Int) != 32) = false := by rw [hb]; rfl
              have HN : Hid (skipF s (s.size - (k + 1)) (k + 1) false = skipP s a) := by unfold Hid; rw [← HK.out, HS.out, if_neg (by rw [HB.out]; exact hx10), if_neg (by decide), if_neg (by rw [HB.out]; exact hx59), if_pos (by rw [HB.out, hx32]; decide)]
              clear hx10 hx59 hx32 n10 n59
              go_wp2_with fail
              go_quiet (fail)
              go_wp2_with fail
              go_quiet (fail)
              go_wp2_with (refine store_at rfl 3 _ _ rfl rfl b 1 (.int .i64 ((k : Int) + 1)) rfl rfl one_int rfl 54 (rC s k v c) hRr (show 1 < 4 by omega) ?_; intro w1 hR1 hg1 hs1)
              go_roundg (s.size - (k + 1))
              case measure => omega
              case rel => exact ⟨k + 1, false, rfl, by omega, rfl, HN, hR1, grown_trans hG (grown_ahead _ hg1), by have := hZ.out; unfold Aside; rw [hs1]; exact this⟩
            · have n32 : ((s[k].toNat : Int) != 32) = true := by
                have := byte_ne (n := 32) (by decide) hx32
                simpa [bne] using this
              by_cases hx9 : s[k] = 9
              · have hb : (s[k].toNat : Int) = 9 := by rw [hx9]; rfl
                have hbn : ((s[k].toNat : Int) != 9) = false := by rw [hb]; rfl
                have HN : Hid (skipF s (s.size - (k + 1)) (k + 1) false = skipP s a) := by unfold Hid; rw [← HK.out, HS.out, if_neg (by rw [HB.out]; exact hx10), if_neg (by decide), if_neg (by rw [HB.out]; exact hx59), if_pos (by rw [HB.out, hx9]; decide)]
                clear hx10 hx59 hx9 n10 n59
                go_wp2_with fail
                go_quiet (fail)
                go_wp2_with fail
                go_quiet (fail)
                go_wp2_with (refine store_at rfl 3 _ _ rfl rfl b 1 (.int .i64 ((k : Int) + 1)) rfl rfl one_int rfl 54 (rC s k v c) hRr (show 1 < 4 by omega) ?_; intro w1 hR1 hg1 hs1)
                go_roundg (s.size - (k + 1))
                case measure => omega
                case rel => exact ⟨k + 1, false, rfl, by omega, rfl, HN, hR1, grown_trans hG (grown_ahead _ hg1), by have := hZ.out; unfold Aside; rw [hs1]; exact this⟩
              · have n9 : ((s[k].toNat : Int) != 9) = true := by
                  have := byte_ne (n := 9) (by decide) hx9
                  simpa [bne] using this
                by_cases hx13 : s[k] = 13
                · have hb : (s[k].toNat : Int) = 13 := by rw [hx13]; rfl
                  have hbn : ((s[k].toNat : Int) != 13) = false := by rw [hb]; rfl
                  have HN : Hid (skipF s (s.size - (k + 1)) (k + 1) false = skipP s a) := by unfold Hid; rw [← HK.out, HS.out, if_neg (by rw [HB.out]; exact hx10), if_neg (by decide), if_neg (by rw [HB.out]; exact hx59), if_pos (by rw [HB.out, hx13]; decide)]
                  clear hx10 hx59 hx13 n10 n59
                  go_wp2_with fail
                  go_quiet (fail)
                  go_wp2_with fail
                  go_quiet (fail)
                  go_wp2_with (refine store_at rfl 3 _ _ rfl rfl b 1 (.int .i64 ((k : Int) + 1)) rfl rfl one_int rfl 54 (rC s k v c) hRr (show 1 < 4 by omega) ?_; intro w1 hR1 hg1 hs1)
                  go_roundg (s.size - (k + 1))
                  case measure => omega
                  case rel => exact ⟨k + 1, false, rfl, by omega, rfl, HN, hR1, grown_trans hG (grown_ahead _ hg1), by have := hZ.out; unfold Aside; rw [hs1]; exact this⟩
                · have n13 : ((s[k].toNat : Int) != 13) = true := by
                    have := byte_ne (n := 13) (by decide) hx13
                    simpa [bne] using this
                  have HN : Hid (skipP s a = k) := by
                    unfold Hid; rw [← HK.out, HS.out, if_neg (by rw [HB.out]; exact hx10), if_neg (by decide), if_neg (by rw [HB.out]; exact hx59), if_neg (by rw [HB.out]; rintro (h | h | h); exact hx32 h; exact hx9 h; exact hx13 h)]
                  clear hx10 hx59 hx32 hx9 hx13
                  go_wp2_with fail
                  go_quiet (fail)
                  go_wp2_with fail
                  go_quiet (fail)
                  go_wp2
                  (try simp only [Exit.inBlock, Exit.then]); refine bodyPost_ret (results_none rfl _ _ _) rfl ?_
                  exact ⟨rfl, by rw [HN.out]; exact hRr, grown_drewN hG _, hZ.out⟩
    · have hke : k = s.size := by omega
      have HE : Hid (skipF s (s.size - k) k q = k) := by unfold Hid; rw [hke, Nat.sub_self, skipF]
      go_wp2_with fail
      go_quiet (fail)
      go_wp2
      go_end0
      refine ⟨rfl, ?_, grown_drewN hG _, hZ.out⟩
      rw [← HK.out, HE.out]
      exact hRr
theorem iskip_st (B b : Nat) (s : ByteArray) (a : Nat) (out : List Dm) (w : World) (hs : s.size ≤ 1500) (ha : a ≤ s.size) (h : ISt w B b s (a : Int) out) :
    Calls Tryz.prog 29 #[.pointer (some ⟨b, 0, none⟩)] w fun e w' => e = .returned (.tuple #[]) ∧ ISt w' B b s (skipP s a : Int) out ∧ Below B w w' := by
  obtain ⟨hB, v, hR, ho, hP⟩ := h
  refine (iskip_any b s a 0 v w hs ha hR).mono ?_
  rintro e w' ⟨rfl, hR', hg, _⟩
  exact ⟨rfl, ISt.own hB hR ho hP hR' hg⟩

set_option maxHeartbeats 1000000 in
set_option maxRecDepth 100000 in
theorem hereI (b : Nat) (s : ByteArray) (a : Nat) (v : Value) (w : World) (hs : s.size ≤ 1500) (ha : a < s.size) (hR : IAt w b s (a : Int) v 0) :
    Calls Tryz.prog 64 #[.pointer (some ⟨b, 0, none⟩)] w fun e w' => e = .returned (.int .u8 ((byteAt s a).toNat : Int)) ∧ IAt w' b s (a : Int) v 0 ∧ w.grownBy w' (some b) := by
  have c0 := i_0 hR
  have c1 := i_1 hR
  have HB := hideT' (byteAt_eq ha)
  go_enter Tryz.func64, Tryz.ntmps64
  go_wp2_with fail
  go_quiet (fail)
  go_wp2_with fail
  go_quiet (fail)
  go_wp2
  go_ret
  exact ⟨by rw [HB.out]; rfl, hR, grown_drewN (grown_drewN (grown_refl _ _) _) _⟩
theorem here_ok (B b : Nat) (s : ByteArray) (a : Nat) (out : List Dm) (w : World) (hs : s.size ≤ 1500) (ha : a < s.size) (h : ISt w B b s (a : Int) out) :
    Calls Tryz.prog 64 #[.pointer (some ⟨b, 0, none⟩)] w fun e w' => e = .returned (.int .u8 ((byteAt s a).toNat : Int)) ∧ ISt w' B b s (a : Int) out ∧ Below B w w' := by
  obtain ⟨hB, v, hR, ho, hP⟩ := h
  refine (hereI b s a v w hs ha hR).mono ?_
  rintro e w' ⟨rfl, hR', hg⟩
  exact ⟨rfl, ISt.own hB hR ho hP hR' hg⟩

set_option maxHeartbeats 1000000 in
set_option maxRecDepth 100000 in
theorem hereI_no (B b : Nat) (s : ByteArray) (a : Nat) (v : Value) (w : World) (hs : s.size ≤ 1500) (ha : a = s.size) (hB : B ≤ b) (hP : PAt w b) (hR : IAt w b s (a : Int) v 0) :
    Calls Tryz.prog 64 #[.pointer (some ⟨b, 0, none⟩)] w fun e w' => Gave B b s w e w' := by
  have c0 := i_0 hR
  have c1 := i_1 hR
  have hge : (s.size : Int) ≤ (a : Int) := by omega
  have HD : Hid (∀ n, IAt (w.drewN n) b s (a : Int) v 0) := fun n => hR
  have HP : Hid (∀ n, PAt (w.drewN n) b) := fun n => hP
  clear hP
  go_enter Tryz.func64, Tryz.ntmps64
  go_wp2_with fail
  go_quiet (fail)
  go_wp2_with fail
  refine (giveUpI B b s (a : Int) 2 v (w.drewN _) (by decide) hB (HP.out _) (HD.out _)).mono ?_
  rintro e w' ⟨k, hk, rfl, hI, hW⟩
  exact ⟨rfl, k, hk, rfl, hI, ⟨hW.os, hW.tape, hW.output, hW.size, hW.block⟩⟩
theorem here_no (B b : Nat) (s : ByteArray) (a : Nat) (out : List Dm) (w : World) (hs : s.size ≤ 1500) (ha : a = s.size) (h : ISt w B b s (a : Int) out) :
    Calls Tryz.prog 64 #[.pointer (some ⟨b, 0, none⟩)] w fun e w' => Gave B b s w e w' := by
  obtain ⟨hB, v, hR, ho, hP⟩ := h
  exact hereI_no B b s a v w hs ha hB hP hR

end Go.Proofs.YtnmofolhfbldjaaGreatDoor

/-
  The program's reader: the next byte, the word where it is, a node added.
-/
namespace Go.Proofs.YtnmofolhfbldjaaGreatDoor
open Go.RowKit
set_option linter.unusedVariables false

set_option maxHeartbeats 1000000 in
set_option maxRecDepth 100000 in
theorem next_ok (B b : Nat) (s : ByteArray) (a : Nat) (out : List Dm) (w : World) (hs : s.size ≤ 1500) (ha : a ≤ s.size) (hl : skipP s a ≠ s.size) (h : ISt w B b s (a : Int) out) :
    Calls Tryz.prog 45 #[.pointer (some ⟨b, 0, none⟩)] w fun e w' => e = .returned (.int .u8 ((byteAt s (skipP s a)).toNat : Int)) ∧ ISt w' B b s (skipP s a : Int) out ∧ Below B w w' := by
  have HL := hideT' hl
  have HA := hideT' (skipP_le s a ha)
  clear hl
  go_enter Tryz.func45, Tryz.ntmps45
  go_wp2_with fail
  refine (iskip_st B b s a out _ hs ha h).mono ?_
  rintro e w1 ⟨rfl, h1, hW1⟩
  go_wp2_with fail
  refine (here_ok B b s (skipP s a) out _ hs (by have := HA.out; have := HL.out; omega) h1).mono ?_
  rintro e w2 ⟨rfl, h2, hW2⟩
  go_wp2
  go_ret
  exact ⟨rfl, h2, hW1.trans hW2⟩

set_option maxHeartbeats 1000000 in
set_option maxRecDepth 100000 in
theorem next_no (B b : Nat) (s : ByteArray) (a : Nat) (out : List Dm) (w : World) (hs : s.size ≤ 1500) (ha : a ≤ s.size) (hl : skipP s a = s.size) (h : ISt w B b s (a : Int) out) :
    Calls Tryz.prog 45 #[.pointer (some ⟨b, 0, none⟩)] w fun e w' => Gave B b s w e w' := by
  have HL := hideT' hl
  clear hl
  go_enter Tryz.func45, Tryz.ntmps45
  go_wp2_with fail
  refine (iskip_st B b s a out _ hs ha h).mono ?_
  rintro e w1 ⟨rfl, h1, hW1⟩
  go_wp2_with fail
  refine (here_no B b s (skipP s a) out _ hs HL.out h1).mono ?_
  rintro e w2 hG
  obtain ⟨k, hk, rfl, hI, hW⟩ := Gave.after hW1 hG
  exact ⟨rfl, k, hk, rfl, hI, hW⟩

def endsB : List UInt8 := [32, 9, 10, 13, 40, 41, 34, 59, 39]
theorem ends_no {c : UInt8} (h : stopB c = false) : Lib.indexByte endsB c = -1 := by
  unfold stopB at h
  simp only [Bool.or_eq_false_iff, beq_eq_false_iff_ne] at h
  obtain ⟨⟨⟨⟨⟨⟨⟨⟨h1, h2⟩, h3⟩, h4⟩, h5⟩, h6⟩, h7⟩, h8⟩, h9⟩ := h
  simp [endsB, Lib.indexByte, Ne.symm h1, Ne.symm h2, Ne.symm h3, Ne.symm h4, Ne.symm h5, Ne.symm h6, Ne.symm h7, Ne.symm h8, Ne.symm h9]
theorem ends_yes {c : UInt8} (h : stopB c = true) : 0 ≤ Lib.indexByte endsB c := by
  unfold stopB at h
  simp only [Bool.or_eq_true, beq_iff_eq] at h
  rcases h with (((((((h | h) | h) | h) | h) | h) | h) | h) | h <;> subst h <;> decide

set_option maxHeartbeats 2000000 in
set_option maxRecDepth 100000 in
theorem wordHere_st (B b : Nat) (s : ByteArray) (a : Nat) (out : List Dm) (w : World) (hs : s.size ≤ 1500) (ha : a ≤ s.size) (h : ISt w B b s (a : Int) out) :
    Calls Tryz.prog 58 #[.pointer (some ⟨b, 0, none⟩)] w fun e w' => e = .returned (.string (s.extract a (wordP s a))) ∧ ISt w' B b s (a : Int) out ∧ Below B w w' := by
  have HS : Hid (∀ n, ISt (w.drewN n) B b s (a : Int) out) := fun n => h
  obtain ⟨hB, v, hR, ho, hP⟩ := h
  have c0 := i_0 hR
  have c1 := i_1 hR
  have HWL := hideT' (wordP_le s a ha)
  clear ho hR hP
  go_enter Tryz.func58, Tryz.ntmps58
  go_wp2_with fail
  go_loopg [3] (s.size - a) (fun g x wr => ∃ k : Nat, g = s.size - k ∧ k ≤ s.size ∧ x = .int .i64 (k : Int) ∧ Hid (wordP s k = wordP s a) ∧ wr = w)
  case atStart => exact ⟨a, rfl, ha, rfl, rfl, rfl⟩
  case round =>
    obtain ⟨k, hg, hk, rfl, HK, rfl⟩ := hrel
    have FIN : Hid (wordP s a = k → (a : Int) ≤ (k : Int) ∧ (k : Int) ≤ (s.size : Int)) := fun e => by have := HWL.out; omega
    by_cases hlt : (k : Int) < (s.size : Int)
    · have hk' : k < s.size := by omega
      have HB := hideT' (byteAt_eq hk')
      have HX : Hid ((s[k].toNat : Int).toNat.toUInt8 = s[k]) := by unfold Hid; simp
      cases hst : stopB s[k] with
      | false =>
        have HN : Hid (wordP s (k + 1) = wordP s a) := by unfold Hid; rw [← HK.out, word_step hk', HB.out, hst]; rfl
        have HE := hideT' (ends_no hst)
        clear hst
        go_wp2_with fail
        refine (Tryz.strings_IndexByte _ _ _).mono ?_
        rintro e w1 ⟨rfl, rfl⟩
        rw [HX.out, show (⟨#[32, 9, 10, 13, 40, 41, 34, 59, 39]⟩ : ByteArray).data.toList = endsB from rfl, HE.out]
        go_wp2_with fail
        go_roundg (s.size - (k + 1))
        case measure => omega
        case rel => exact ⟨k + 1, rfl, by omega, by go_num, HN, rfl⟩
      | true =>
        have HN : Hid (wordP s a = k) := by unfold Hid; rw [← HK.out, word_step hk', HB.out, hst]; rfl
        obtain ⟨f1, f2⟩ := FIN.out HN.out
        obtain ⟨r, hr⟩ : ∃ r, r = Lib.indexByte endsB s[k] := ⟨_, rfl⟩
        have hr0 : 0 ≤ r := by rw [hr]; exact ends_yes hst
        have HE := hideT' hr
        clear hst hr
        go_wp2_with fail
        refine (Tryz.strings_IndexByte _ _ _).mono ?_
        rintro e w1 ⟨rfl, rfl⟩
        rw [HX.out, show (⟨#[32, 9, 10, 13, 40, 41, 34, 59, 39]⟩ : ByteArray).data.toList = endsB from rfl, ← HE.out]
        go_wp2_with fail
        go_quiet (fail)
        go_wp2
        go_ret
        exact ⟨by rw [HN.out]; rfl, HS.out _, ⟨rfl, rfl, rfl, Nat.le_refl _, fun _ _ => rfl⟩⟩
    · have hke : k = s.size := by omega
      have HN : Hid (wordP s a = k) := by unfold Hid; rw [← HK.out, word_end hke]
      obtain ⟨f1, f2⟩ := FIN.out HN.out
      have HKE := hideT' hke
      go_wp2_with fail
      go_quiet (fail)
      go_wp2
      go_ret
      exact ⟨by rw [HN.out, HKE.out]; rfl, HS.out _, ⟨rfl, rfl, rfl, Nat.le_refl _, fun _ _ => rfl⟩⟩

set_option maxHeartbeats 2000000 in
set_option maxRecDepth 100000 in
theorem add_no (B b : Nat) (s : ByteArray) (a : Int) (out : List Dm) (k : Int) (t : ByteArray) (u : Int) (w : World) (hn : 300 ≤ out.length) (hn2 : out.length ≤ 300) (h : ISt w B b s a out) :
    Calls Tryz.prog 59 #[.pointer (some ⟨b, 0, none⟩), .int .i64 k, .string t, .int .i64 u] w fun e w' => Gave B b s w e w' := by
  have HS := hideT' h
  obtain ⟨hB, v, hR, ho, hP⟩ := h
  obtain ⟨o, cap, rfl⟩ := own3_form ho
  have c2 := i_2 hR
  clear hP
  have hn3 : (300 : Int) ≤ (out.length : Int) := by omega
  clear hR ho
  go_enter Tryz.func59, Tryz.ntmps59
  go_wp2_with fail
  refine (giveUp_any B b s a 4 out _ (by decide) HS.out).mono ?_
  rintro e w1 ⟨q, hq, rfl, hI, hW⟩
  exact ⟨rfl, q, hq, rfl, hI, hW⟩

set_option maxHeartbeats 2000000 in
set_option maxRecDepth 100000 in
theorem add_ok (B b : Nat) (s : ByteArray) (a : Int) (out : List Dm) (k : Int) (t : ByteArray) (u : Int) (w : World) (hn0 : out.length < 300) (h : ISt w B b s a out) :
    Calls Tryz.prog 59 #[.pointer (some ⟨b, 0, none⟩), .int .i64 k, .string t, .int .i64 u] w fun e w' => e = .returned (.int .i64 (out.length : Int)) ∧ ISt w' B b s a (out ++ [⟨k, t, u⟩]) ∧ Below B w w' := by
  obtain ⟨hB, v, hR, ho, hP⟩ := h
  obtain ⟨o, cap, rfl⟩ := own3_form ho
  have hbl := RowAt.lt hR
  have HP := hideT' hP
  clear hP
  have c2 := i_2 hR
  obtain ⟨n, hnn⟩ : ∃ n, n = out.length := ⟨_, rfl⟩
  have HNN := hideT' hnn
  rw [← hnn] at hn0 c2
  have hn : ¬ (300 : Int) ≤ (n : Int) := by omega
  have HO : Hid (w.ownsRow B 39 3 (.slice o n cap) n (out.flatMap dmL)) := by unfold Hid; rw [hnn]; exact ho
  have HR : Hid (IAt w b s a (.slice o n cap) 0) := by unfold Hid; rw [hnn]; exact hR
  obtain ⟨i0, hi, hz0, hz1, hz2⟩ := info_parts info_dm
  clear hR ho hnn
  go_enter Tryz.func59, Tryz.ntmps59
  go_wp2_with (first | (at_builtin; refine wpList_append_own _ rfl _ _ 23 rfl B 39 i0 (.agg #[.int .i64 0, .string ⟨#[]⟩, .int .i64 0]) 3 32 Tryz.underlying23 hi hz0 hz1 hz2 rfl (by decide) _ _ _ rfl (HO.out.alloc _) ⟨w.heap.size, 0, none⟩ 1 1 (dmL ⟨k, t, u⟩) rfl rfl (three_cells w ⟨k, t, u⟩) (dmL_one _) (by unfold maxLen; omega) (by omega) (by simp; omega) ?_; intro v2 w2 hv2 hg2 _; obtain ⟨o2, cap2, rfl⟩ := own3_form hv2; have hR2 : IAt w2 b s a (.slice o n cap) 0 := RowAt.grown (RowAt.old HR.out _) hg2 (own3_ne HO.out HR.out (by decide))) | (refine store_at rfl 23 _ _ rfl rfl b 2 (.slice o2 (n + 1) cap2) rfl rfl one_sl rfl 54 (rC s a (.slice o n cap) 0) hR2 (show 2 < 4 by omega) ?_; intro w3 hR3 hg3 hs3; have c2' := i_2 (show IAt w3 b s a (.slice o2 (n + 1) cap2) 0 from hR3)))
  go_ret
  have hB2 : Below B w w2 := ((Below.refl B w).alloc (by omega) _).grown hg2 (by simp; omega) (fun k hk => own3_ge HO.out hk)
  have hB3 : Below B w w3 := hB2.grown hg3 (by have := hB2.size; omega) (by intro k hk; injection hk; omega)
  have hv3 := own3_grown hv2 hg3 (own3_ne hv2 hR2 (by decide))
  refine ⟨by rw [← HNN.out]; rfl, ?_, hB3⟩
  have hP3 : PAt w3 b := RowAt.grown (RowAt.grown (RowAt.old HP.out _) hg2 (own3_ne HO.out HP.out (by decide))) hg3 (by intro e; injection e; omega)
  refine ⟨hB, _, hR3, ?_, hP3⟩
  rw [List.flatMap_append, List.length_append, ← HNN.out]
  simpa using hv3

set_option maxHeartbeats 1000000 in
set_option maxRecDepth 100000 in
theorem addList_ok (B b : Nat) (s : ByteArray) (a : Int) (out : List Dm) (u deep : Int) (w : World) (hn : out.length < 300) (hd : ¬ 25 ≤ deep) (h : ISt w B b s a out) :
    Calls Tryz.prog 65 #[.pointer (some ⟨b, 0, none⟩), .int .i64 u, .int .i64 deep] w fun e w' => e = .returned (.int .i64 (out.length : Int)) ∧ ISt w' B b s a (out ++ [⟨5, ⟨#[]⟩, u⟩]) ∧ Below B w w' := by
  go_enter Tryz.func65, Tryz.ntmps65
  go_wp2_with fail
  refine (add_ok B b s a out 5 ⟨#[]⟩ u _ hn h).mono ?_
  rintro e w1 ⟨rfl, h1, hW1⟩
  go_wp2
  go_ret
  exact ⟨rfl, h1, hW1⟩

set_option maxHeartbeats 1000000 in
set_option maxRecDepth 100000 in
theorem addList_no (B b : Nat) (s : ByteArray) (a : Int) (out : List Dm) (u deep : Int) (w : World) (hn2 : out.length ≤ 300) (hd : 300 ≤ out.length ∨ 25 ≤ deep) (h : ISt w B b s a out) :
    Calls Tryz.prog 65 #[.pointer (some ⟨b, 0, none⟩), .int .i64 u, .int .i64 deep] w fun e w' => Gave B b s w e w' := by
  by_cases hd2 : 25 ≤ deep
  · clear hd
    go_enter Tryz.func65, Tryz.ntmps65
    go_wp2_with fail
    refine (giveUp_any B b s a 4 out _ (by decide) h).mono ?_
    rintro e w1 ⟨q, hq, rfl, hI, hW⟩
    exact ⟨rfl, q, hq, rfl, hI, hW⟩
  · have hn : 300 ≤ out.length := by omega
    clear hd
    go_enter Tryz.func65, Tryz.ntmps65
    go_wp2_with fail
    refine (add_no B b s a out 5 ⟨#[]⟩ u _ hn hn2 h).mono ?_
    rintro e w1 ⟨q, hq, rfl, hI, hW⟩
    exact ⟨rfl, q, hq, rfl, hI, hW⟩

end Go.Proofs.YtnmofolhfbldjaaGreatDoor

/-
  What impl.DataText answers.
-/
namespace Go.Proofs.YtnmofolhfbldjaaGreatDoor
open Go.RowKit
set_option linter.unusedVariables false

def txtAll (l : List Dm) : List UInt8 := jnK l (TX l) l.length (-1)
/-- What DataText should answer. -/
def DtAns (l : List Dm) (e : Ending) : Prop :=
  ((goodAll l && decide ((txtAll l).length ≤ 1500)) = true ∧ ∃ s : ByteArray, e = .returned (.tuple #[.string s, .bool true]) ∧ s.data.toList = txtAll l) ∨ ((goodAll l && decide ((txtAll l).length ≤ 1500)) = false ∧ e = .returned (.tuple #[.string ⟨#[]⟩, .bool false]))
theorem DtAns.same {l : List Dm} {e e' : Ending} (h : DtAns l e) (h' : DtAns l e') : ∃ (s : ByteArray) (o : Bool), e = .returned (.tuple #[.string s, .bool o]) ∧ e' = .returned (.tuple #[.string s, .bool o]) := by
  rcases h with ⟨g1, s, rfl, h⟩ | ⟨g1, rfl⟩ <;> rcases h' with ⟨g2, t, rfl, h'⟩ | ⟨g2, rfl⟩
  · have : s = t := by
      have h3 : s.data = t.data := Array.ext' (by rw [h, h'])
      cases s; cases t; simp at h3; rw [h3]
    subst this
    exact ⟨s, true, rfl, rfl⟩
  · rw [g1] at g2; cases g2
  · rw [g1] at g2; cases g2
  · exact ⟨_, _, rfl, rfl⟩

theorem fine_of {l : List Dm} (hg : goodAll l = true) (hs : ∀ k, k < l.length → (dt l k).size ≤ 1048576) : Fine l := by
  unfold goodAll at hg
  rw [Bool.and_eq_true] at hg
  have hn := of_decide_eq_true hg.1
  have hall : ∀ k, k < l.length → nodeOk l k = true := fun k hk => List.all_eq_true.1 hg.2 k (List.mem_range.2 hk)
  have h1 : ∀ k, k < l.length → (upOk l k = true ∧ txtOk (dk l k) (dt l k).data.toList = true ∧ deepOk l k = true) ∧ dotOk l k = true := fun k hk => by
    have := hall k hk
    unfold nodeOk at this
    simp only [Bool.and_eq_true] at this
    exact this
  exact ⟨hn, fun k hk => (h1 k hk).1.1, fun k hk => (h1 k hk).2, fun k hk => (h1 k hk).1.2.1, hs⟩

theorem conv_nil (w : World) : (convert 63 9 (.slice none 0 0)).run Tryz.prog w = .ok (.string ⟨#[]⟩) w := by
  simp [convert, run_underlying Tryz.underlying63, run_underlying Tryz.underlying9, run_underlying Tryz.underlying5, Conv.bytesToString]
  rfl
theorem own_conv' {w : World} {B n : Nat} {v : Value} {l : List UInt8} (h : w.ownsRow B 5 1 v n (Lib.byteCells l)) (hn : n = l.length) : (convert 63 9 v).run Tryz.prog w = .ok (.string ⟨l.toArray⟩) w := by
  by_cases h0 : n = 0
  · rcases h.2 with ⟨rfl, _⟩ | ⟨g, cap, cur, rfl, hg, hh, hc, _, hsz, ht⟩
    · have hl : l = [] := List.length_eq_zero_iff.1 (by omega)
      subst hl
      exact conv_nil w
    · have hl : l = [] := List.length_eq_zero_iff.1 (by omega)
      subst hl
      subst hn
      exact run_convert_bytes_back (P := Tryz.prog) w 63 9 5 ⟨g, 0, none⟩ cap [] Tryz.underlying63 Tryz.underlying5 Tryz.underlying9 (fun j hj => by simp at hj)
  · exact own_conv h hn h0

end Go.Proofs.YtnmofolhfbldjaaGreatDoor

/-
  The program's reader: strings.
-/
namespace Go.Proofs.YtnmofolhfbldjaaGreatDoor
open Go.RowKit
set_option linter.unusedVariables false

theorem own_keep {w w' : World} {B z n : Nat} {T : TypeId} {v : Value} {xs : List Value} {r : Option Nat} (h : w.ownsRow B T z v n xs) (hg : w.grownBy w' r) (hne : r = none ∨ r ≠ v.ownBlock) : w'.ownsRow B T z v n xs := by
  refine ⟨h.1, ?_⟩
  rcases h.2 with h1 | ⟨g, cap, cur, rfl, h2, h3, h4⟩
  · exact .inl h1
  · refine .inr ⟨g, cap, cur, rfl, h2, ?_, h4⟩
    rw [hg.block g (Array.getElem?_eq_some_iff.1 h3).1 (fun e => by
      rcases hne with rfl | hne
      · cases e
      · exact hne (by rw [← e]; rfl))]
    exact h3
theorem own_apart {w : World} {B1 B2 z1 z2 n1 n2 : Nat} {T1 T2 : TypeId} {v1 v2 : Value} {x1 x2 : List Value} (h1 : w.ownsRow B1 T1 z1 v1 n1 x1) (h2 : w.ownsRow B2 T2 z2 v2 n2 x2) (ht : T1 ≠ T2) : v1.ownBlock = none ∨ v1.ownBlock ≠ v2.ownBlock := by
  rcases h1.2 with ⟨rfl, _⟩ | ⟨g, cap, cur, rfl, _, h3, _⟩
  · exact .inl rfl
  · right
    rcases h2.2 with ⟨rfl, _⟩ | ⟨g2, cap2, cur2, rfl, _, h4, _⟩
    · simp [Value.ownBlock]
    · intro e
      simp [Value.ownBlock] at e
      subst e
      rw [h3] at h4
      injection h4 with h4
      injection h4 with _ h5 _
      exact ht h5
theorem grown_any {w w' w'' : World} {b : Nat} (h : w.grownBy w' (some b)) (h' : w'.grownBy w'' (some b)) : w.grownBy w'' (some b) := grown_trans h h'

/-- What is left: nodes more, or it has given up. -/
def IRes (B b : Nat) (s : ByteArray) (w : World) (out : List Dm) (r : Option (Nat × List Dm)) (e : Ending) (w' : World) : Prop :=
  match r with
  | none => Gave B b s w e w'
  | some (a', ps) => e = .returned (.tuple #[]) ∧ ISt w' B b s (a' : Int) (out ++ ps) ∧ Below B w w'
theorem IRes.no {B b : Nat} {s : ByteArray} {w w' : World} {out : List Dm} {r : Option (Nat × List Dm)} {e : Ending} (hr : r = none) (h : Gave B b s w e w') : IRes B b s w out r e w' := by rw [hr]; exact h
theorem IRes.yes {B b : Nat} {s : ByteArray} {w w' : World} {out ps : List Dm} {r : Option (Nat × List Dm)} {e : Ending} {a' : Nat} (hr : r = some (a', ps)) (h : e = .returned (.tuple #[]) ∧ ISt w' B b s (a' : Int) (out ++ ps) ∧ Below B w w') : IRes B b s w out r e w' := by rw [hr]; exact h

set_option maxHeartbeats 1000000 in
set_option maxRecDepth 100000 in
theorem sByte_plain (B b : Nat) (s : ByteArray) (k : Nat) (v : Value) (w : World) (hs : s.size ≤ 1500) (hk : k < s.size) (h92 : byteAt s k ≠ 92) (hR : IAt w b s (k : Int) v 0) :
    Calls Tryz.prog 67 #[.pointer (some ⟨b, 0, none⟩)] w fun e w' => e = .returned (.int .u8 (((byteAt s k).toNat : Int))) ∧ IAt w' b s (((k + 1 : Nat) : Int)) v 0 ∧ w.grownBy w' (some b) := by
  have n92 : (((byteAt s k).toNat : Int) != 92) = true := by
    have := byte_ne (n := 92) (by decide) h92
    simpa [bne] using this
  clear h92
  go_enter Tryz.func67, Tryz.ntmps67
  go_wp2_with fail
  refine (hereI b s k v _ hs hk hR).mono ?_
  rintro e w1 ⟨rfl, hR1, hg1⟩
  have c1 := i_1 hR1
  go_wp2_with (refine store_at rfl 3 _ _ rfl rfl b 1 (.int .i64 ((k : Int) + 1)) rfl rfl one_int rfl 54 (rC s k v 0) hR1 (show 1 < 4 by omega) ?_; intro w2 hR2 hg2 hs2)
  go_ret
  exact ⟨rfl, hR2, grown_any hg1 hg2⟩
set_option maxHeartbeats 1000000 in
set_option maxRecDepth 100000 in
theorem sByte_end (B b : Nat) (s : ByteArray) (k : Nat) (v : Value) (w : World) (hs : s.size ≤ 1500) (hB : B ≤ b) (hP : PAt w b) (hk : k < s.size) (h92 : byteAt s k = 92) (he : k + 1 = s.size) (hR : IAt w b s (k : Int) v 0) :
    Calls Tryz.prog 67 #[.pointer (some ⟨b, 0, none⟩)] w fun e w' => Gave B b s w e w' := by
  have n92 : (((byteAt s k).toNat : Int) != 92) = false := by rw [h92]; rfl
  have hbl := RowAt.lt hR
  have HP := hideT' hP
  clear h92 hP
  go_enter Tryz.func67, Tryz.ntmps67
  go_wp2_with fail
  refine (hereI b s k v _ hs hk hR).mono ?_
  rintro e w1 ⟨rfl, hR1, hg1⟩
  have c1 := i_1 hR1
  go_wp2_with (refine store_at rfl 3 _ _ rfl rfl b 1 (.int .i64 ((k : Int) + 1)) rfl rfl one_int rfl 54 (rC s k v 0) hR1 (show 1 < 4 by omega) ?_; intro w2 hR2 hg2 hs2)
  refine (hereI_no B b s (k + 1) v _ hs he hB (RowAt.grown (RowAt.grown HP.out hg1 (by intro e; injection e; omega)) hg2 (by intro e; injection e; omega)) hR2).mono ?_
  rintro e w3 hG
  have hW : Below B w w2 := ((Below.refl B w).grown hg1 (by omega) (by intro k hk; injection hk; omega)).grown hg2 (by have := hg1.size; omega) (by intro k hk; injection hk; omega)
  obtain ⟨q, hq, rfl, hI, hW'⟩ := Gave.after hW hG
  exact ⟨rfl, q, hq, rfl, hI, hW'⟩
set_option maxHeartbeats 1000000 in
set_option maxRecDepth 100000 in
theorem sByte_q (B b : Nat) (s : ByteArray) (k : Nat) (v : Value) (w : World) (hs : s.size ≤ 1500) (hk : k < s.size) (h92 : byteAt s k = 92) (he : k + 1 < s.size) (h2 : byteAt s (k + 1) = 34) (hR : IAt w b s (k : Int) v 0) :
    Calls Tryz.prog 67 #[.pointer (some ⟨b, 0, none⟩)] w fun e w' => e = .returned (.int .u8 (((byteAt s (k + 1)).toNat : Int))) ∧ IAt w' b s (((k + 2 : Nat) : Int)) v 0 ∧ w.grownBy w' (some b) := by
  have n92 : (((byteAt s k).toNat : Int) != 92) = false := by rw [h92]; rfl
  have hy : ((byteAt s (k + 1)).toNat : Int) = 34 := by rw [h2]; rfl
  clear h2
  clear h92
  go_enter Tryz.func67, Tryz.ntmps67
  go_wp2_with fail
  refine (hereI b s k v _ hs hk hR).mono ?_
  rintro e w1 ⟨rfl, hR1, hg1⟩
  have c1 := i_1 hR1
  go_wp2_with (refine store_at rfl 3 _ _ rfl rfl b 1 (.int .i64 ((k : Int) + 1)) rfl rfl one_int rfl 54 (rC s k v 0) hR1 (show 1 < 4 by omega) ?_; intro w2 hR2 hg2 hs2)
  refine (hereI b s (k + 1) v _ hs he hR2).mono ?_
  rintro e w3 ⟨rfl, hR3, hg3⟩
  have c1' := i_1 hR3
  go_wp2_with (refine store_at rfl 3 _ _ rfl rfl b 1 (.int .i64 (((k + 1 : Nat) : Int) + 1)) rfl rfl one_int rfl 54 (rC s ((k + 1 : Nat) : Int) v 0) hR3 (show 1 < 4 by omega) ?_; intro w4 hR4 hg4 hs4)
  go_ret
  refine ⟨by rw [hy]; rfl, ?_, grown_any (grown_any hg1 hg2) (grown_any hg3 hg4)⟩
  rw [show ((k + 2 : Nat) : Int) = ((k + 1 : Nat) : Int) + 1 by omega]
  exact hR4
set_option maxHeartbeats 1000000 in
set_option maxRecDepth 100000 in
theorem sByte_b (B b : Nat) (s : ByteArray) (k : Nat) (v : Value) (w : World) (hs : s.size ≤ 1500) (hk : k < s.size) (h92 : byteAt s k = 92) (he : k + 1 < s.size) (h2 : byteAt s (k + 1) = 92) (hR : IAt w b s (k : Int) v 0) :
    Calls Tryz.prog 67 #[.pointer (some ⟨b, 0, none⟩)] w fun e w' => e = .returned (.int .u8 (((byteAt s (k + 1)).toNat : Int))) ∧ IAt w' b s (((k + 2 : Nat) : Int)) v 0 ∧ w.grownBy w' (some b) := by
  have n92 : (((byteAt s k).toNat : Int) != 92) = false := by rw [h92]; rfl
  have hy : ((byteAt s (k + 1)).toNat : Int) = 92 := by rw [h2]; rfl
  clear h2
  clear h92
  go_enter Tryz.func67, Tryz.ntmps67
  go_wp2_with fail
  refine (hereI b s k v _ hs hk hR).mono ?_
  rintro e w1 ⟨rfl, hR1, hg1⟩
  have c1 := i_1 hR1
  go_wp2_with (refine store_at rfl 3 _ _ rfl rfl b 1 (.int .i64 ((k : Int) + 1)) rfl rfl one_int rfl 54 (rC s k v 0) hR1 (show 1 < 4 by omega) ?_; intro w2 hR2 hg2 hs2)
  refine (hereI b s (k + 1) v _ hs he hR2).mono ?_
  rintro e w3 ⟨rfl, hR3, hg3⟩
  have c1' := i_1 hR3
  go_wp2_with (refine store_at rfl 3 _ _ rfl rfl b 1 (.int .i64 (((k + 1 : Nat) : Int) + 1)) rfl rfl one_int rfl 54 (rC s ((k + 1 : Nat) : Int) v 0) hR3 (show 1 < 4 by omega) ?_; intro w4 hR4 hg4 hs4)
  go_ret
  refine ⟨by rw [hy]; rfl, ?_, grown_any (grown_any hg1 hg2) (grown_any hg3 hg4)⟩
  rw [show ((k + 2 : Nat) : Int) = ((k + 1 : Nat) : Int) + 1 by omega]
  exact hR4
set_option maxHeartbeats 1000000 in
set_option maxRecDepth 100000 in
theorem sByte_n (B b : Nat) (s : ByteArray) (k : Nat) (v : Value) (w : World) (hs : s.size ≤ 1500) (hk : k < s.size) (h92 : byteAt s k = 92) (he : k + 1 < s.size) (h2 : byteAt s (k + 1) = 110) (hR : IAt w b s (k : Int) v 0) :
    Calls Tryz.prog 67 #[.pointer (some ⟨b, 0, none⟩)] w fun e w' => e = .returned (.int .u8 (10)) ∧ IAt w' b s (((k + 2 : Nat) : Int)) v 0 ∧ w.grownBy w' (some b) := by
  have n92 : (((byteAt s k).toNat : Int) != 92) = false := by rw [h92]; rfl
  have hy : ((byteAt s (k + 1)).toNat : Int) = 110 := by rw [h2]; rfl
  clear h2
  clear h92
  go_enter Tryz.func67, Tryz.ntmps67
  go_wp2_with fail
  refine (hereI b s k v _ hs hk hR).mono ?_
  rintro e w1 ⟨rfl, hR1, hg1⟩
  have c1 := i_1 hR1
  go_wp2_with (refine store_at rfl 3 _ _ rfl rfl b 1 (.int .i64 ((k : Int) + 1)) rfl rfl one_int rfl 54 (rC s k v 0) hR1 (show 1 < 4 by omega) ?_; intro w2 hR2 hg2 hs2)
  refine (hereI b s (k + 1) v _ hs he hR2).mono ?_
  rintro e w3 ⟨rfl, hR3, hg3⟩
  have c1' := i_1 hR3
  go_wp2_with (refine store_at rfl 3 _ _ rfl rfl b 1 (.int .i64 (((k + 1 : Nat) : Int) + 1)) rfl rfl one_int rfl 54 (rC s ((k + 1 : Nat) : Int) v 0) hR3 (show 1 < 4 by omega) ?_; intro w4 hR4 hg4 hs4)
  go_ret
  refine ⟨rfl, ?_, grown_any (grown_any hg1 hg2) (grown_any hg3 hg4)⟩
  rw [show ((k + 2 : Nat) : Int) = ((k + 1 : Nat) : Int) + 1 by omega]
  exact hR4
set_option maxHeartbeats 1000000 in
set_option maxRecDepth 100000 in
theorem sByte_no (B b : Nat) (s : ByteArray) (k : Nat) (v : Value) (w : World) (hs : s.size ≤ 1500) (hk : k < s.size) (h92 : byteAt s k = 92) (he : k + 1 < s.size) (h1 : byteAt s (k + 1) ≠ 34) (h2 : byteAt s (k + 1) ≠ 92) (h3 : byteAt s (k + 1) ≠ 110) (hR : IAt w b s (k : Int) v 0) :
    Calls Tryz.prog 67 #[.pointer (some ⟨b, 0, none⟩)] w fun e w' => e = .returned (.int .u8 (0)) ∧ IAt w' b s (((k + 2 : Nat) : Int)) v 0 ∧ w.grownBy w' (some b) := by
  have n92 : (((byteAt s k).toNat : Int) != 92) = false := by rw [h92]; rfl
  have m1 : (((byteAt s (k + 1)).toNat : Int) == 34) = false := byte_ne (n := 34) (by decide) h1
  have m2 : (((byteAt s (k + 1)).toNat : Int) == 92) = false := byte_ne (n := 92) (by decide) h2
  have m3 : (((byteAt s (k + 1)).toNat : Int) == 110) = false := byte_ne (n := 110) (by decide) h3
  clear h1 h2 h3
  clear h92
  go_enter Tryz.func67, Tryz.ntmps67
  go_wp2_with fail
  refine (hereI b s k v _ hs hk hR).mono ?_
  rintro e w1 ⟨rfl, hR1, hg1⟩
  have c1 := i_1 hR1
  go_wp2_with (refine store_at rfl 3 _ _ rfl rfl b 1 (.int .i64 ((k : Int) + 1)) rfl rfl one_int rfl 54 (rC s k v 0) hR1 (show 1 < 4 by omega) ?_; intro w2 hR2 hg2 hs2)
  refine (hereI b s (k + 1) v _ hs he hR2).mono ?_
  rintro e w3 ⟨rfl, hR3, hg3⟩
  have c1' := i_1 hR3
  go_wp2_with (refine store_at rfl 3 _ _ rfl rfl b 1 (.int .i64 (((k + 1 : Nat) : Int) + 1)) rfl rfl one_int rfl 54 (rC s ((k + 1 : Nat) : Int) v 0) hR3 (show 1 < 4 by omega) ?_; intro w4 hR4 hg4 hs4)
  go_ret
  refine ⟨rfl, ?_, grown_any (grown_any hg1 hg2) (grown_any hg3 hg4)⟩
  rw [show ((k + 2 : Nat) : Int) = ((k + 1 : Nat) : Int) + 1 by omega]
  exact hR4

/-- A byte of a string: where it goes on. -/
theorem sByte_ok (B b : Nat) (s : ByteArray) (k k' : Nat) (x : UInt8) (v : Value) (w : World) (hs : s.size ≤ 1500) (hk : k < s.size) (hE : escP s k = some (k', x)) (hR : IAt w b s (k : Int) v 0) :
    Calls Tryz.prog 67 #[.pointer (some ⟨b, 0, none⟩)] w fun e w' => e = .returned (.int .u8 (x.toNat : Int)) ∧ IAt w' b s (k' : Int) v 0 ∧ w.grownBy w' (some b) := by
  by_cases h92 : byteAt s k = 92
  · by_cases he : k + 1 = s.size
    · rw [esc_end h92 he] at hE; cases hE
    · have he' : k + 1 < s.size := by omega
      by_cases h1 : byteAt s (k + 1) = 34
      · rw [esc_self h92 he' (.inl h1)] at hE
        injection hE with hE
        injection hE with h2 h3
        subst h2; subst h3
        exact sByte_q B b s k v w hs hk h92 he' h1 hR
      · by_cases h2 : byteAt s (k + 1) = 92
        · rw [esc_self h92 he' (.inr h2)] at hE
          injection hE with hE
          injection hE with h2' h3
          subst h2'; subst h3
          exact sByte_b B b s k v w hs hk h92 he' h2 hR
        · by_cases h3 : byteAt s (k + 1) = 110
          · rw [esc_n h92 he' h3] at hE
            injection hE with hE
            injection hE with h2' h3'
            subst h2'; subst h3'
            exact sByte_n B b s k v w hs hk h92 he' h3 hR
          · rw [esc_no h92 he' h1 h2 h3] at hE; cases hE
  · rw [esc_plain h92] at hE
    injection hE with hE
    injection hE with h2 h3
    subst h2; subst h3
    exact sByte_plain B b s k v w hs hk h92 hR
/-- None: it gives up, or tells 0. -/
theorem sByte_none (B b : Nat) (s : ByteArray) (k : Nat) (v : Value) (w : World) (hs : s.size ≤ 1500) (hB : B ≤ b) (hP : PAt w b) (hk : k < s.size) (hE : escP s k = none) (hR : IAt w b s (k : Int) v 0) :
    Calls Tryz.prog 67 #[.pointer (some ⟨b, 0, none⟩)] w fun e w' => Gave B b s w e w' ∨ (e = .returned (.int .u8 0) ∧ IAt w' b s ((k + 2 : Nat) : Int) v 0 ∧ w.grownBy w' (some b)) := by
  by_cases h92 : byteAt s k = 92
  · by_cases he : k + 1 = s.size
    · exact (sByte_end B b s k v w hs hB hP hk h92 he hR).mono fun e w' h => .inl h
    · have he' : k + 1 < s.size := by omega
      by_cases h1 : byteAt s (k + 1) = 34
      · rw [esc_self h92 he' (.inl h1)] at hE; cases hE
      · by_cases h2 : byteAt s (k + 1) = 92
        · rw [esc_self h92 he' (.inr h2)] at hE; cases hE
        · by_cases h3 : byteAt s (k + 1) = 110
          · rw [esc_n h92 he' h3] at hE; cases hE
          · exact (sByte_no B b s k v w hs hk h92 he' h1 h2 h3 hR).mono fun e w' h => .inr h
  · rw [esc_plain h92] at hE; cases hE
theorem esc_leI {s : ByteArray} {k k' : Nat} {y : UInt8} (hk : k < s.size) (h : escP s k = some (k', y)) : k < k' ∧ k' ≤ s.size := by
  unfold escP at h
  split at h
  · split at h
    · cases h
    · split at h
      · injection h with h; injection h with h1 h2; omega
      · split at h
        · injection h with h; injection h with h1 h2; omega
        · cases h
  · injection h with h; injection h with h1 h2; omega

theorem own_formZ {w : World} {B z n : Nat} {T : TypeId} {v : Value} {xs : List Value} (h : w.ownsRow B T z v n xs) : ∃ o cap, v = .slice o n cap := by
  rcases h.2 with ⟨rfl, rfl⟩ | ⟨g, cap, cur, rfl, _⟩
  · exact ⟨none, 0, rfl⟩
  · exact ⟨_, _, rfl⟩
theorem strOk_snoc {t : List UInt8} {c : UInt8} (h : strOk t = true) : strOk (t ++ [c]) = (decide (t.length < 100) && strC c) := by
  unfold strOk at *
  rw [Bool.and_eq_true] at h
  rw [List.all_append, h.2, List.length_append]
  simp [Nat.lt_iff_add_one_le]

set_option maxHeartbeats 4000000 in
set_option maxRecDepth 100000 in
theorem istr_st (B b : Nat) (s : ByteArray) (p : Nat) (out : List Dm) (up deep : Int) (w : World) (hs : s.size ≤ 1500) (hp : p < s.size) (hn : out.length ≤ 300) (h : ISt w B b s (p : Int) out) :
    Calls Tryz.prog 48 #[.pointer (some ⟨b, 0, none⟩), .int .i64 up, .int .i64 deep] w fun e w' => IRes B b s w out (strR s (p + 1) up out.length) e w' := by
  obtain ⟨hB, v, hR, ho, hP⟩ := h
  have hbl := RowAt.lt hR
  have c1 := i_1 hR
  have HP0 := hideT' hP
  clear hP
  obtain ⟨i0, hi, hz0, hz1, hz2⟩ := info_parts info_u8
  go_enter Tryz.func48, Tryz.ntmps48
  go_wp2_with (refine store_at rfl 3 _ _ rfl rfl b 1 (.int .i64 ((p : Int) + 1)) rfl rfl one_int rfl 54 (rC s p v 0) hR (show 1 < 4 by omega) ?_; intro w1 hR1 hg1 hs1)
  go_loopg [6] (s.size - (p + 1)) (fun g x wr => ∃ (k n f : Nat) (t : List UInt8), g = s.size - k ∧ p + 1 ≤ k ∧ k ≤ s.size ∧ Hid (n = t.length) ∧ n ≤ 100 ∧ Hid (strOk t = true) ∧ Hid (s.size - k < f) ∧ Hid (strF s f k t = strP s (p + 1)) ∧ wr.ownsRow B 5 1 x n (Lib.byteCells t) ∧ IAt wr b s (k : Int) v 0 ∧ wr.ownsRow B 39 3 v out.length (out.flatMap dmL) ∧ Hid (PAt wr b) ∧ Below B w wr)
  case atStart => exact ⟨p + 1, 0, s.size + 1 - (p + 1), [], rfl, Nat.le_refl _, by omega, rfl, by omega, (show strOk [] = true by decide), by unfold Hid; omega, rfl, World.ownsRow_nil _ _ _ _, hR1, own_keep ho hg1 (.inr (own3_ne ho hR (by decide))), RowAt.grown HP0.out hg1 (by intro e; injection e; omega), (Below.refl B w).grown hg1 (by omega) (by intro k hk; injection hk; omega)⟩
  case round =>
    clear hR1 hR ho hg1 hs1 c1
    obtain ⟨k, n, f, t, hg, hpk, hk, HN, hn1, HOK, HFU, HF, hx, hRr, hor, HP, hWr⟩ := hrel
    obtain ⟨o, cap, rfl⟩ := own_formZ hx
    have hbl2 := RowAt.lt hRr
    have HX := hideT' hx
    have HO := hideT' hor
    clear hx hor
    by_cases hke : k = s.size
    · have HNO : Hid (strR s (p + 1) up out.length = none) := strR_none (by rw [← HF.out, strF_end hke])
      go_wp2_with fail
      refine (hereI_no B b s k v _ hs hke hB HP.out hRr).mono ?_
      rintro e w9 hG
      obtain ⟨q, hq, rfl, hI, hW'⟩ := Gave.after hWr hG
      exact ⟨rfl, IRes.no HNO.out ⟨q, hq, rfl, hI, hW'⟩⟩
    · have hk' : k < s.size := by omega
      by_cases h34 : byteAt s k = 34
      · have n34 : (((byteAt s k).toNat : Int) != 34) = false := by rw [h34]; rfl
        have HSP : Hid (strP s (p + 1) = some (k + 1, t)) := by unfold Hid; rw [← HF.out, strF_quote hk' HFU.out h34]
        clear h34 hke
        go_wp2_with fail
        refine (hereI b s k v _ hs hk' hRr).mono ?_
        rintro e w2 ⟨rfl, hR2, hg2⟩
        have c1 := i_1 hR2
        have hx2 := own_keep HX.out hg2 (.inr (own_ne HX.out hRr (by decide)))
        have ho2 := own_keep HO.out hg2 (.inr (own3_ne HO.out hRr (by decide)))
        have hW2 := hWr.grown hg2 (by omega) (by intro k hk; injection hk; omega)
        have hbl3 := RowAt.lt hR2
        have HX2 := hideT' hx2
        have HO2 := hideT' ho2
        clear hx2 ho2
        go_wp2_with (first | (refine store_at rfl 3 _ _ rfl rfl b 1 (.int .i64 ((k : Int) + 1)) rfl rfl one_int rfl 54 (rC s k v 0) hR2 (show 1 < 4 by omega) ?_; intro w3 hR3 hg3 hs3; have hcv := own_conv' (own_keep HX2.out hg3 (.inr (own_ne HX2.out hR2 (by decide)))) HN.out))
        have hS3 : ISt w3 B b s ((k + 1 : Nat) : Int) out := ⟨hB, v, hR3, own_keep HO2.out hg3 (.inr (own3_ne HO2.out hR2 (by decide))), RowAt.grown (RowAt.grown HP.out hg2 (by intro e; injection e; omega)) hg3 (by intro e; injection e; omega)⟩
        have hW3 := hW2.grown hg3 (by omega) (by intro k hk; injection hk; omega)
        by_cases h300 : 300 ≤ out.length
        · have HNO : Hid (strR s (p + 1) up out.length = none) := by unfold Hid; rw [strR_some HSP.out, if_pos h300]
          refine (add_no B b s _ out 3 _ up _ h300 hn hS3).mono ?_
          rintro e w9 hG
          obtain ⟨q, hq, rfl, hI, hW'⟩ := Gave.after hW3 hG
          exact ⟨rfl, IRes.no HNO.out ⟨q, hq, rfl, hI, hW'⟩⟩
        · have HYES : Hid (strR s (p + 1) up out.length = some (k + 1, [⟨3, ⟨t.toArray⟩, up⟩])) := by unfold Hid; rw [strR_some HSP.out, if_neg h300]
          refine (add_ok B b s _ out 3 _ up _ (by omega) hS3).mono ?_
          rintro e w4 ⟨rfl, hS4, hW4⟩
          go_wp2
          go_end0
          exact IRes.yes HYES.out ⟨rfl, hS4, hW3.trans hW4⟩
      · have n34 : (((byteAt s k).toNat : Int) != 34) = true := by
          have := byte_ne (n := 34) (by decide) h34
          simpa [bne] using this
        have H34 := hideT' h34
        clear h34 hke
        go_wp2_with fail
        refine (hereI b s k v _ hs hk' hRr).mono ?_
        rintro e w2 ⟨rfl, hR2, hg2⟩
        have hx2 := own_keep HX.out hg2 (.inr (own_ne HX.out hRr (by decide)))
        have ho2 := own_keep HO.out hg2 (.inr (own3_ne HO.out hRr (by decide)))
        have hW2 := hWr.grown hg2 (by omega) (by intro k hk; injection hk; omega)
        have hbl3 := RowAt.lt hR2
        have HX2 := hideT' hx2
        have HO2 := hideT' ho2
        clear hx2 ho2
        cases hE : escP s k with
        | none =>
          have HNO : Hid (strR s (p + 1) up out.length = none) := strR_none (by rw [← HF.out, strF_none hk' HFU.out H34.out hE])
          have HE := hideT' hE
          clear hE
          go_wp2_with fail
          refine (sByte_none B b s k v _ hs hB (RowAt.grown HP.out hg2 (by intro e; injection e; omega)) hk' HE.out hR2).mono ?_
          rintro e w3 (hG | ⟨rfl, hR3, hg3⟩)
          · obtain ⟨q, hq, rfl, hI, hW'⟩ := Gave.after hW2 hG
            exact ⟨rfl, IRes.no HNO.out ⟨q, hq, rfl, hI, hW'⟩⟩
          · have hW3 := hW2.grown hg3 (by omega) (by intro k hk; injection hk; omega)
            have HP3 : Hid (PAt w3 b) := RowAt.grown (RowAt.grown HP.out hg2 (by intro e; injection e; omega)) hg3 (by intro e; injection e; omega)
            by_cases h100 : (100 : Int) ≤ (n : Int)
            · go_wp2_with fail
              refine (giveUpI B b s _ 3 v _ (by decide) hB HP3.out hR3).mono ?_
              rintro e w9 hG
              obtain ⟨q, hq, rfl, hI, hW'⟩ := Gave.after hW3 hG
              exact ⟨rfl, IRes.no HNO.out ⟨q, hq, rfl, hI, hW'⟩⟩
            · go_wp2_with fail
              refine (inString_any 0 _ _ rfl).mono ?_
              rintro e w4 ⟨rfl, rfl⟩
              rw [show strC 0 = false from by decide]
              go_wp2_with fail
              refine (giveUpI B b s _ 3 v _ (by decide) hB HP3.out hR3).mono ?_
              rintro e w9 hG
              obtain ⟨q, hq, rfl, hI, hW'⟩ := Gave.after hW3 hG
              exact ⟨rfl, IRes.no HNO.out ⟨q, hq, rfl, hI, hW'⟩⟩
        | some r =>
          obtain ⟨k', y⟩ := r
          have hkk : k < k' ∧ k' ≤ s.size := esc_leI hk' hE
          have HE := hideT' hE
          clear hE
          go_wp2_with fail
          refine (sByte_ok B b s k k' y v _ hs hk' HE.out hR2).mono ?_
          rintro e w3 ⟨rfl, hR3, hg3⟩
          have hW3 := hW2.grown hg3 (by omega) (by intro k hk; injection hk; omega)
          have HP3 : Hid (PAt w3 b) := RowAt.grown (RowAt.grown HP.out hg2 (by intro e; injection e; omega)) hg3 (by intro e; injection e; omega)
          by_cases h100 : (100 : Int) ≤ (n : Int)
          · have HNO : Hid (strR s (p + 1) up out.length = none) := strR_none (by rw [← HF.out, strF_no hk' HFU.out H34.out HE.out (by rw [strOk_snoc HOK.out, decide_eq_false (by rw [← HN.out]; omega)]; rfl)])
            go_wp2_with fail
            refine (giveUpI B b s _ 3 v _ (by decide) hB HP3.out hR3).mono ?_
            rintro e w9 hG
            obtain ⟨q, hq, rfl, hI, hW'⟩ := Gave.after hW3 hG
            exact ⟨rfl, IRes.no HNO.out ⟨q, hq, rfl, hI, hW'⟩⟩
          · go_wp2_with fail
            refine (inString_any y _ _ rfl).mono ?_
            rintro e w4 ⟨rfl, he4⟩
            rw [he4]
            clear he4 w4
            cases hsc : strC y with
            | false =>
              have HNO : Hid (strR s (p + 1) up out.length = none) := strR_none (by rw [← HF.out, strF_no hk' HFU.out H34.out HE.out (by rw [strOk_snoc HOK.out, hsc, Bool.and_false])])
              clear hsc
              go_wp2_with fail
              refine (giveUpI B b s _ 3 v _ (by decide) hB HP3.out hR3).mono ?_
              rintro e w9 hG
              obtain ⟨q, hq, rfl, hI, hW'⟩ := Gave.after hW3 hG
              exact ⟨rfl, IRes.no HNO.out ⟨q, hq, rfl, hI, hW'⟩⟩
            | true =>
              have HOK2 : Hid (strOk (t ++ [y]) = true) := by unfold Hid; rw [strOk_snoc HOK.out, hsc, decide_eq_true (by rw [← HN.out]; omega)]; rfl
              have HF2 : Hid (strF s (f - 1) k' (t ++ [y]) = strP s (p + 1)) := by unfold Hid; rw [← HF.out, strF_go hk' HFU.out H34.out HE.out HOK2.out]
              clear hsc
              have hx3 := own_keep HX2.out hg3 (.inr (own_ne HX2.out hR2 (by decide)))
              have ho3 := own_keep HO2.out hg3 (.inr (own3_ne HO2.out hR2 (by decide)))
              have HO3 := hideT' ho3
              have hbl4 := RowAt.lt hR3
              clear ho3
              go_wp2_with (first | (at_builtin; refine wpList_append_own _ rfl _ _ 63 rfl B 5 i0 (.int .u8 0) 1 1 Tryz.underlying63 hi hz0 hz1 hz2 rfl (by decide) _ _ _ rfl (hx3.alloc _) ⟨w3.heap.size, 0, none⟩ 1 1 [.int .u8 (y.toNat : Int)] rfl rfl (cell_one_new _ _ _) (one_byte _) (by unfold maxLen; omega) (by omega) (by simp; omega) ?_; intro v5 w5 hx5 hg5 _))
              have hR5 : IAt w5 b s (k' : Int) v 0 := RowAt.grown (RowAt.old hR3 _) hg5 (own_ne hx3 hR3 (by decide))
              have ho5 := own_keep (HO3.out.alloc _) hg5 (own_apart hx3 HO3.out (by decide))
              have hW5 := (hW3.alloc (by have := RowAt.lt hR3; omega) _).grown hg5 (by simp; have := RowAt.lt hR3; omega) (fun k hk => own_ge hx3 hk)
              rw [bytes_snoc] at hx5
              go_roundg (s.size - k')
              case measure => omega
              case rel => exact ⟨k', n + 1, f - 1, t ++ [y], rfl, by omega, by omega, by unfold Hid; rw [List.length_append, ← HN.out]; rfl, by omega, HOK2, by unfold Hid; have := HFU.out; omega, HF2, hx5, hR5, ho5, RowAt.grown (RowAt.old HP3.out _) hg5 (own_ne hx3 HP3.out (by decide)), hW5⟩

end Go.Proofs.YtnmofolhfbldjaaGreatDoor

/-
  The model's reader: a datum, for all fuel.
-/
namespace Go.Proofs.YtnmofolhfbldjaaGreatDoor
open Go.RowKit
set_option linter.unusedVariables false

theorem one_all : ∀ f, OneC f := by
  intro f
  induction f using Nat.strongRecOn with
  | _ f IH =>
    cases f with
    | zero => intro B b s a out up deep w hs ha hf; omega
    | succ f =>
      intro B b s a out up deep w hs ha hf hn hd h
      by_cases hend : skipP s a = s.size
      · exact one_end f B b s a out up deep w hs ha hf hn hd hend h
      · by_cases h40 : byteAt s (skipP s a) = 40
        · exact one_open f (list_st f (fun g hg => IH g (by omega))) B b s a out up deep w hs ha hf hn hd ⟨hend, h40⟩ h
        · by_cases h41 : byteAt s (skipP s a) = 41
          · exact one_close f B b s a out up deep w hs ha hf hn hd ⟨hend, h41⟩ h
          · by_cases h39 : byteAt s (skipP s a) = 39
            · exact one_quote f (IH f (by omega)) B b s a out up deep w hs ha hf hn hd ⟨hend, h39⟩ h
            · by_cases h34 : byteAt s (skipP s a) = 34
              · exact one_str f B b s a out up deep w hs ha hf hn hd ⟨hend, h34⟩ h
              · exact one_word f B b s a out up deep w hs ha hf hn hd ⟨hend, h40, h41, h39, h34⟩ h
end Go.Proofs.YtnmofolhfbldjaaGreatDoor
