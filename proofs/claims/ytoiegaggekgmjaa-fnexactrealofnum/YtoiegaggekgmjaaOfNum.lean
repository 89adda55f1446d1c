/-
  What RealOfNum of impl and of spec answer.
-/
import Derived.Test.YtoiegaggekgmjaaImplOf
import Derived.Test.YtoiegaggekgmjaaSpecOf
import Derived.Test.YtoiegaggekgmjaaPkReadNumA
import Derived.Test.YtoiegaggekgmjaaPkSpecParts
namespace Go.Proofs.Ytoiegaggekgmjaa
open Go.RowKit
set_option linter.unusedVariables false

/-- What RealOfNum answers. -/
def OfAns (s : ByteArray) (e : Ending) : Prop :=
  ((300 < s.size ∨ okN s.data.toList = false) ∧ e = .returned (.tuple #[.agg #[.bool false, .int .i64 0, .int .i64 0], .bool false])) ∨
  ((s.size ≤ 300 ∧ okN s.data.toList = true) ∧ ∃ R : Nat, Near (topN s.data.toList) (botN s.data.toList) R ∧ e = .returned (.tuple #[.agg #[.bool (negN s.data.toList), .int .i64 (manOf R : Nat), .int .i64 (expOf R)], .bool true]))
theorem OfAns.same {s : ByteArray} {e e' : Ending} (h : OfAns s e) (h' : OfAns s e') : ∃ (a : Bool) (b c : Int) (d : Bool), e = .returned (.tuple #[.agg #[.bool a, .int .i64 b, .int .i64 c], .bool d]) ∧ e' = e := by
  rcases h with ⟨h1, rfl⟩ | ⟨h1, R, hR, rfl⟩
  · rcases h' with ⟨h2, rfl⟩ | ⟨h2, _⟩
    · exact ⟨_, _, _, _, rfl, rfl⟩
    · exfalso
      rcases h1 with h1 | h1
      · omega
      · rw [h2.2] at h1; cases h1
  · rcases h' with ⟨h2, _⟩ | ⟨h2, R', hR', rfl⟩
    · exfalso
      rcases h2 with h2 | h2
      · omega
      · rw [h1.2] at h2; cases h2
    · rw [hR.one hR']
      exact ⟨_, _, _, _, rfl, rfl⟩
theorem ten_len {L : Nat} (e j : Nat) (h : L ≤ 3 * e) (hj : 10 * e ≤ j) : 10 ^ L ≤ 2 ^ j := Nat.le_trans (Nat.pow_le_pow_right (by decide) h) (ten_two e j hj)
theorem top_lt {s : ByteArray} (h : okN s.data.toList = true) (hs : s.size ≤ 300) : topN s.data.toList < 2 ^ 1000 := by
  have h1 : goodB (overN s.data.toList) = true := by
    unfold okN at h
    simp only [Bool.and_eq_true] at h
    exact h.1.1
  have h2 := dval_lt _ (canon_all (good_canon h1))
  have h3 : (overN s.data.toList).length ≤ 300 := by
    have h4 := (cut_size (bodyN s.data.toList)).1
    have h5 : (bodyN s.data.toList).length ≤ s.data.toList.length := by
      unfold bodyN
      split
      · simp
      · exact Nat.le_refl _
    have h6 : s.data.toList.length = s.size := by simp
    unfold overN
    omega
  exact Nat.lt_of_lt_of_le h2 (ten_len 100 1000 (by omega) (by omega))

set_option maxHeartbeats 4000000 in
set_option maxRecDepth 100000 in
theorem implOfNum_any (s : ByteArray) (w : World) (hs : s.size ≤ maxLen) :
    Calls Try.prog 15 #[.string s] w fun e w' => OfAns s e ∧ Below w.heap.size w w' := by
  have hz := zero_real.1
  have hz2 := zero_num.1
  have hB : Below w.heap.size w (w.alloc (.cells #[.bool false, .int .i64 0, .int .i64 0] 25)) := (Below.refl _ _).alloc (Nat.le_refl _) _
  have A := RowAt.new w 25 #[.bool false, .int .i64 0, .int .i64 0]
  have hb := hs
  unfold maxLen at hb
  by_cases hl : (300 : Int) < (s.size : Int)
  · have HA : Hid (OfAns s (.returned (.tuple #[.agg #[.bool false, .int .i64 0, .int .i64 0], .bool false]))) := .inl ⟨.inl (by omega), rfl⟩
    go_enter Try.func15, Try.ntmps15
    go_wp2
    exact bodyPost_ret (res_real_tmp Try.results15 _ _ w.heap.size _ _ _ _ rfl rfl (RowAt.new w _ _)) rfl ⟨HA.out, (Below.refl _ _).alloc (Nat.le_refl _) _⟩
  · have HL : Hid (s.size ≤ 300) := by unfold Hid; omega
    go_enter Try.func15, Try.ntmps15
    go_wp2_with fail
    refine (readNum_any s _ hs).mono ?_
    rintro e w1 ⟨⟨g, k, j, p, q, rfl, hp, hq, hok⟩, hW1⟩
    have hs1 := hW1.size
    simp only [World.size_alloc] at hs1
    have A1 := RowAt.below A hW1 (by simp)
    have hB1 : Below w.heap.size w w1 := hB.trans (hW1.mono (by simp))
    have F := NumAt.new w1 false 0 zP 0 zP
    have HOK := hide hok
    clear A hB hW1 hok
    cases ho : okN s.data.toList with
    | false =>
      have HA : Hid (OfAns s (.returned (.tuple #[.agg #[.bool false, .int .i64 0, .int .i64 0], .bool false]))) := .inl ⟨.inr ho, rfl⟩
      clear ho
      go_wp2_with (with_reducible refine wpList_idO ?_; first | (refine store_num rfl (.tmp 4) (.tmp 13) rfl rfl w1.heap.size g k p j q rfl rfl false 0 zP 0 zP F zP_len zP_len hp hq ?_; intro w2 hN2 hg2 hs2) | (refine store_3 rfl 25 _ _ rfl rfl zero_real.2 w.heap.size _ rfl (real_one _ _ _) rfl rfl #[.bool false, .int .i64 0, .int .i64 0] rfl (RowAt.grown (RowAt.old A1 _) hg2 (by simp; omega)) ?_; intro w3 hR3 hg3 hs3))
      have hB2 : Below w.heap.size w w2 := (hB1.alloc hB1.size _).grown hg2 (by simp; have := hB1.size; omega) (by intro k hk; cases hk; have := hB1.size; omega)
      exact bodyPost_ret (res_real_tmp Try.results15 _ _ w.heap.size _ _ _ _ rfl rfl hR3) rfl ⟨HA.out, hB2.grown hg3 hB2.size (by intro k hk; cases hk; omega)⟩
    | true =>
      obtain ⟨hg, ra, rb, hk, hj, hj0⟩ := HOK.out ho
      have HT := hide (top_lt ho HL.out)
      have HM := hide (okN_bot' ho)
      have RA := hide (And.intro ra rb)
      have HG := hide hg
      have HO := hide ho
      clear ra rb ho HOK hg
      go_wp2_with (with_reducible refine wpList_idO ?_; first | (refine store_num rfl (.tmp 4) (.tmp 13) rfl rfl w1.heap.size g k p j q rfl rfl false 0 zP 0 zP F zP_len zP_len hp hq ?_; intro w2 hN2 hg2 hs2) | (refine load_num rfl (.tmp 4) rfl w1.heap.size rfl g k p j q hN2 hp hq ?_))
      have hB2 : Below w.heap.size w w2 := (hB1.alloc hB1.size _).grown hg2 (by simp; have := hB1.size; omega) (by intro k hk; cases hk; have := hB1.size; omega)
      have A2 := RowAt.grown (RowAt.old A1 (.cells (numC false 0 zP 0 zP) 47)) hg2 (by simp; omega)
      have hs2' : w.heap.size + 1 ≤ w2.heap.size := by rw [hs2]; simp; omega
      clear A1 hB1 F hN2 hg2 hs2
      refine (real_any g false w2 RA.out.1 RA.out.2 hk hj HT.out HM.out).mono ?_
      rintro e w3 ⟨⟨R, rfl, hR⟩, hW3⟩
      have hs3 := hW3.size
      have A3 := RowAt.below A2 hW3 (by omega)
      have hB3 : Below w.heap.size w w3 := hB2.trans (hW3.mono (by omega))
      have HA : Hid (OfAns s (.returned (.tuple #[.agg #[.bool (g || (decide (topN s.data.toList = 0) && false)), .int .i64 (manOf R : Nat), .int .i64 (expOf R)], .bool true]))) := .inr ⟨⟨HL.out, HO.out⟩, R, hR, by rw [Bool.and_false, Bool.or_false, HG.out]⟩
      clear A2 hB2 hW3 hR
      go_wp2_with (with_reducible refine wpList_idO ?_; refine store_3 rfl 25 _ _ rfl rfl zero_real.2 w.heap.size _ rfl (real_one _ _ _) rfl rfl _ rfl A3 ?_; intro w4 hR4 hg4 hs4)
      refine bodyPost_ret (res_real_tmp Try.results15 _ _ w.heap.size _ _ _ _ rfl rfl hR4) rfl ⟨?_, hB3.grown hg4 hB3.size (by intro k hk; cases hk; omega)⟩
      have := HA.out
      simpa using this

set_option maxHeartbeats 4000000 in
set_option maxRecDepth 100000 in
theorem specOfNum_any (s : ByteArray) (w : World) (hs : s.size ≤ maxLen) :
    Calls Try.prog 14 #[.string s] w fun e w' => OfAns s e ∧ Below w.heap.size w w' := by
  have hz := zero_real.1
  have hB : Below w.heap.size w (w.alloc (.cells #[.bool false, .int .i64 0, .int .i64 0] 25)) := (Below.refl _ _).alloc (Nat.le_refl _) _
  have A := RowAt.new w 25 #[.bool false, .int .i64 0, .int .i64 0]
  have hb := hs
  unfold maxLen at hb
  have HP := hide (l2Parts_any s (w.alloc (.cells #[.bool false, .int .i64 0, .int .i64 0] 25)) hs)
  go_enter Try.func14, Try.ntmps14
  go_wp2_with fail
  refine HP.out.mono ?_
  rintro e w1 ⟨⟨g, t, u, rfl, hok⟩, hW1⟩
  have hs1 := hW1.size
  simp only [World.size_alloc] at hs1
  have A1 := RowAt.below A hW1 (by simp)
  have hB1 : Below w.heap.size w w1 := hB.trans (hW1.mono (by simp))
  have HOK := hide hok
  clear A hB hW1 hok HP
  cases ho : okN s.data.toList with
  | false =>
    have HA : Hid (OfAns s (.returned (.tuple #[.agg #[.bool false, .int .i64 0, .int .i64 0], .bool false]))) := .inl ⟨.inr ho, rfl⟩
    clear ho
    go_wp2_with (with_reducible refine wpList_idO ?_; refine store_3 rfl 25 _ _ rfl rfl zero_real.2 w.heap.size _ rfl (real_one _ _ _) rfl rfl _ rfl A1 ?_; intro w3 hR3 hg3 hs3)
    exact bodyPost_ret (res_real_tmp Try.results14 _ _ w.heap.size _ _ _ _ rfl rfl hR3) rfl ⟨HA.out, hB1.grown hg3 hB1.size (by intro k hk; cases hk; omega)⟩
  | true =>
    by_cases hl : (300 : Int) < (s.size : Int)
    · have HA : Hid (OfAns s (.returned (.tuple #[.agg #[.bool false, .int .i64 0, .int .i64 0], .bool false]))) := .inl ⟨.inl (by omega), rfl⟩
      clear ho
      go_wp2_with (with_reducible refine wpList_idO ?_; refine store_3 rfl 25 _ _ rfl rfl zero_real.2 w.heap.size _ rfl (real_one _ _ _) rfl rfl _ rfl A1 ?_; intro w3 hR3 hg3 hs3)
      exact bodyPost_ret (res_real_tmp Try.results14 _ _ w.heap.size _ _ _ _ rfl rfl hR3) rfl ⟨HA.out, hB1.grown hg3 hB1.size (by intro k hk; cases hk; omega)⟩
    · have HL : Hid (s.size ≤ 300) := by unfold Hid; omega
      obtain ⟨hg, gt, vt, gu, vu⟩ := HOK.out ho
      have HT : Hid (Tx t (topN s.data.toList) ∧ Tx u (botN s.data.toList) ∧ t.size ≤ 600 ∧ u.size ≤ 600) := by
        refine ⟨⟨good_canon gt, vt⟩, ⟨good_canon gu, vu⟩, ?_, ?_⟩
        · have := gt
          unfold goodB at this
          simp at this
          simpa using this.1
        · have := gu
          unfold goodB at this
          simp at this
          simpa using this.1
      have HTT := hide (top_lt ho HL.out)
      have HM := hide (okN_bot' ho)
      have HG := hide hg
      have HO := hide ho
      clear gt vt gu vu ho HOK hg
      go_wp2_with fail
      refine (lbOfT g w1 HT.out.1 HT.out.2.1 HT.out.2.2.1 HT.out.2.2.2 HTT.out HM.out).mono ?_
      rintro e w2 ⟨⟨R, v, rfl, hR, hv⟩, hW2⟩
      subst hv
      have A2 := RowAt.below A1 hW2 (by omega)
      have hB2 : Below w.heap.size w w2 := hB1.trans (hW2.mono (by omega))
      have HA : Hid (OfAns s (.returned (.tuple #[.agg #[.bool g, .int .i64 (manOf R : Nat), .int .i64 (expOf R)], .bool true]))) := .inr ⟨⟨HL.out, HO.out⟩, R, hR, by rw [HG.out]⟩
      clear A1 hB1 hW2 hR
      go_wp2_with (with_reducible refine wpList_idO ?_; refine store_3 rfl 25 _ _ rfl rfl zero_real.2 w.heap.size _ rfl (real_one _ _ _) rfl rfl _ rfl A2 ?_; intro w3 hR3 hg3 hs3)
      exact bodyPost_ret (res_real_tmp Try.results14 _ _ w.heap.size _ _ _ _ rfl rfl hR3) rfl ⟨HA.out, hB2.grown hg3 hB2.size (by intro k hk; cases hk; omega)⟩
end Go.Proofs.Ytoiegaggekgmjaa
