/-
  What GoodReal, rank, realAt and NextReal of impl answer.
-/
import Derived.Test.YtoiegaggekgmjaaRealMem
import Derived.Test.YtoiegaggekgmjaaRecs
namespace Go.Proofs.Ytoiegaggekgmjaa
open Go.RowKit
set_option linter.unusedVariables false

set_option maxHeartbeats 1000000 in
theorem implGoodReal_any (g : Bool) (m e : Int) (w : World) :
    Calls Try.prog 13 #[.agg #[.bool g, .int .i64 m, .int .i64 e]] w fun e' w' => e' = .returned (.bool (finB m e || infB m e)) ∧ Below w.heap.size w w' := by
  have hR := RowAt.new w 25 #[.bool g, .int .i64 m, .int .i64 e]
  have hB : Below w.heap.size w (w.alloc (.cells #[.bool g, .int .i64 m, .int .i64 e] 25)) := (Below.refl _ _).alloc (Nat.le_refl _) _
  have HF := hideT' (isFinite_any g m e (w.alloc (.cells #[.bool g, .int .i64 m, .int .i64 e] 25)))
  have HI := hideT' (fun w1 => isInfinite_any g m e w1)
  obtain ⟨f, hf⟩ : ∃ f, f = finB m e := ⟨_, rfl⟩
  obtain ⟨i, hi⟩ : ∃ i, i = infB m e := ⟨_, rfl⟩
  rw [← hf] at HF ⊢
  rw [← hi] at HI ⊢
  clear hf hi
  cases f
  · cases i
    all_goals
      go_enter Try.func13, Try.ntmps13
      go_wp2_with fail
      refine HF.out.mono ?_
      rintro _ w1 ⟨rfl, hW1⟩
      have hs1 := hW1.size
      simp only [World.size_alloc] at hs1
      have hB1 : Below w.heap.size w w1 := hB.trans (hW1.mono (by simp))
      have hR1 := RowAt.below hR hW1 (by simp)
      have c0 : w1.cell? ⟨w.heap.size, 0, none⟩ = some (.bool g) := by rw [cell_of_row w1 _ _ _ _ _ hR1]; rfl
      have c1 : w1.cell? ⟨w.heap.size, 1, none⟩ = some (.int .i64 m) := by rw [cell_of_row w1 _ _ _ _ _ hR1]; rfl
      have c2 : w1.cell? ⟨w.heap.size, 2, none⟩ = some (.int .i64 e) := by rw [cell_of_row w1 _ _ _ _ _ hR1]; rfl
      clear hR hB hR1 hW1 HF
      go_wp2_with fail
      refine (HI.out w1).mono ?_
      rintro _ w2 ⟨rfl, hW2⟩
      have hB2 : Below w.heap.size w w2 := hB1.trans (hW2.mono (by omega))
      clear HI hW2
      go_wp2
      go_ret
      exact ⟨rfl, hB2⟩
  · go_enter Try.func13, Try.ntmps13
    go_wp2_with fail
    refine HF.out.mono ?_
    rintro _ w1 ⟨rfl, hW1⟩
    have hB1 : Below w.heap.size w w1 := hB.trans (hW1.mono (by simp))
    clear hR hB hW1 HF HI
    go_wp2
    go_ret
    exact ⟨rfl, hB1⟩

/-- The rank of a good real, below 0 with its sign. -/
def rankA (m e : Int) : Int := if infB m e = true then 1360087087465889792 else (e + 150) * 4503599627370496 + m
def rankZ (g : Bool) (m e : Int) : Int := if g then -(rankA m e) else rankA m e

set_option maxHeartbeats 1000000 in
theorem rank_any (g : Bool) (m e : Int) (w : World) (h : finB m e = true ∨ infB m e = true) :
    Calls Try.prog 38 #[.agg #[.bool g, .int .i64 m, .int .i64 e]] w fun e' w' => e' = .returned (.int .i64 (rankZ g m e)) ∧ Below w.heap.size w w' := by
  have hR := RowAt.new w 25 #[.bool g, .int .i64 m, .int .i64 e]
  have hB : Below w.heap.size w (w.alloc (.cells #[.bool g, .int .i64 m, .int .i64 e] 25)) := (Below.refl _ _).alloc (Nat.le_refl _) _
  have HI := hideT' (isInfinite_any g m e (w.alloc (.cells #[.bool g, .int .i64 m, .int .i64 e] 25)))
  have hbd : -150 ≤ e ∧ e ≤ 151 ∧ 0 ≤ m ∧ m < 9007199254740992 := by
    unfold finB infB at h
    split at h <;> simp at h <;> omega
  obtain ⟨b1, b2, b3, b4⟩ := hbd
  obtain ⟨y, hy⟩ : ∃ y, (e + 150) * 4503599627370496 = y := ⟨_, rfl⟩
  have hy0 : 0 ≤ y := by omega
  have hy1 : y ≤ 1355583487838519296 := by omega
  have HY := hideT' hy
  have HH := hideT' h
  obtain ⟨i, hi⟩ : ∃ i, i = infB m e := ⟨_, rfl⟩
  rw [← hi] at HI
  have HR : Hid (rankZ g m e = if g then -(if i = true then 1360087087465889792 else y + m) else (if i = true then 1360087087465889792 else y + m)) := by
    unfold Hid rankZ rankA
    rw [← hi, hy]
  rw [HR.out]
  clear h hi HR
  go_enter Try.func38, Try.ntmps38
  go_wp2_with fail
  refine HI.out.mono ?_
  rintro _ w1 ⟨rfl, hW1⟩
  have hs1 := hW1.size
  simp only [World.size_alloc] at hs1
  have hB1 : Below w.heap.size w w1 := hB.trans (hW1.mono (by simp))
  have hR1 := RowAt.below hR hW1 (by simp)
  have c0 : w1.cell? ⟨w.heap.size, 0, none⟩ = some (.bool g) := by rw [cell_of_row w1 _ _ _ _ _ hR1]; rfl
  clear hR hB hR1 hW1 HI hy HY
  cases i
  · cases g
    · go_wp2
      go_ret
      exact ⟨rfl, hB1⟩
    · go_wp2
      go_ret
      exact ⟨rfl, hB1⟩
  · cases g
    · go_wp2
      go_ret
      exact ⟨rfl, hB1⟩
    · go_wp2
      go_ret
      exact ⟨rfl, hB1⟩

set_option maxHeartbeats 1000000 in
theorem realAt_any (g : Bool) (R : Nat) (r : Int) (w : World) (hr : r = (R : Int)) (hb : r ≤ 9000000000000000000) :
    Calls Try.prog 40 #[.bool g, .int .i64 r] w fun e' w' => e' = .returned (.agg #[.bool g, .int .i64 (manOf R : Nat), .int .i64 (expOf R)]) ∧ Below w.heap.size w w' := by
  have hz := zero_real.1
  have hB : Below w.heap.size w (w.alloc (.cells #[.bool false, .int .i64 0, .int .i64 0] 25)) := (Below.refl _ _).alloc (Nat.le_refl _) _
  by_cases h : (1360087087465889792 : Int) ≤ r
  · have hm : ((manOf R : Nat) : Int) = 0 := by unfold manOf; rw [if_pos (by omega)]; rfl
    have he : expOf R = 151 := by unfold expOf; rw [if_pos (by omega)]
    rw [hm, he]
    clear hm he hr
    go_enter Try.func40, Try.ntmps40
    go_wp2
    exact bodyPost_ret (res_real Try.results40 _ _ w.heap.size _ _ _ rfl (RowAt.new w _ _)) rfl ⟨rfl, (Below.refl _ _).alloc (Nat.le_refl _) _⟩
  · have hn : ¬ 302 * 4503599627370496 ≤ R := by omega
    have hr0 : 0 ≤ r := by omega
    have hq : r.tdiv 4503599627370496 = r / 4503599627370496 := Int.tdiv_eq_ediv_of_nonneg hr0
    obtain ⟨q, hq'⟩ : ∃ q, r / 4503599627370496 = q := ⟨_, rfl⟩
    have hq0 : 0 ≤ q := by omega
    have hq1 : q ≤ 302 := by omega
    by_cases h1 : q - 1 < 0
    · have hm : ((manOf R : Nat) : Int) = r := by unfold manOf; rw [if_neg hn]; omega
      have he : expOf R = -150 := by unfold expOf; rw [if_neg hn]; omega
      rw [hm, he]
      clear hm he hr hn
      go_enter Try.func40, Try.ntmps40
      go_wp2
      exact bodyPost_ret (res_real Try.results40 _ _ w.heap.size _ _ _ rfl (RowAt.new w _ _)) rfl ⟨rfl, (Below.refl _ _).alloc (Nat.le_refl _) _⟩
    · obtain ⟨y, hy⟩ : ∃ y, (q - 1) * 4503599627370496 = y := ⟨_, rfl⟩
      have hm : ((manOf R : Nat) : Int) = r - y := by unfold manOf; rw [if_neg hn]; omega
      have he : expOf R = q - 1 - 150 := by unfold expOf; rw [if_neg hn]; omega
      rw [hm, he]
      have hy0 : 0 ≤ y := by omega
      have hy1 : y ≤ r := by omega
      clear hm he hr hn
      go_enter Try.func40, Try.ntmps40
      go_wp2
      exact bodyPost_ret (res_real Try.results40 _ _ w.heap.size _ _ _ rfl (RowAt.new w _ _)) rfl ⟨rfl, (Below.refl _ _).alloc (Nat.le_refl _) _⟩

/-- What NextReal answers. -/
def nextV (g : Bool) (m e : Int) : Value :=
  if finB m e = true ∧ rankZ g m e + 1 ≠ 1360087087465889792 then .tuple #[.agg #[.bool (decide (rankZ g m e + 1 < 0)), .int .i64 (manOf (rankZ g m e + 1).natAbs : Nat), .int .i64 (expOf (rankZ g m e + 1).natAbs)], .bool true]
  else .tuple #[.agg #[.bool false, .int .i64 0, .int .i64 0], .bool false]
theorem rankZ_bd {g : Bool} {m e : Int} (h : finB m e = true) : -1360087087465889792 < rankZ g m e ∧ rankZ g m e < 1360087087465889792 := by
  obtain ⟨n, rfl, hf⟩ := (finB_iff m e).1 h
  have hi : infB (n : Int) e = false := by
    unfold infB FinR at *
    simp
    omega
  unfold rankZ rankA FinR at *
  rw [hi]
  cases g <;> simp <;> omega

set_option maxHeartbeats 1000000 in
theorem implNextReal_any (g : Bool) (m e : Int) (w : World) :
    Calls Try.prog 20 #[.agg #[.bool g, .int .i64 m, .int .i64 e]] w fun e' w' => e' = .returned (nextV g m e) ∧ Below w.heap.size w w' := by
  have hz := zero_real.1
  have hR := (RowAt.new w 25 #[.bool g, .int .i64 m, .int .i64 e]).old (.cells #[.bool false, .int .i64 0, .int .i64 0] 25)
  have hR' := RowAt.new (w.alloc (.cells #[.bool g, .int .i64 m, .int .i64 e] 25)) 25 #[.bool false, .int .i64 0, .int .i64 0]
  have hB : Below w.heap.size w ((w.alloc (.cells #[.bool g, .int .i64 m, .int .i64 e] 25)).alloc (.cells #[.bool false, .int .i64 0, .int .i64 0] 25)) := ((Below.refl _ _).alloc (Nat.le_refl _) _).alloc (by simp) _
  simp only [World.size_alloc] at hR'
  have HF := hideT' (isFinite_any g m e ((w.alloc (.cells #[.bool g, .int .i64 m, .int .i64 e] 25)).alloc (.cells #[.bool false, .int .i64 0, .int .i64 0] 25)))
  have HK := hideT' (fun w1 (h : finB m e = true) => rank_any g m e w1 (.inl h))
  have HZ := hideT' (@rankZ_bd g m e)
  obtain ⟨f, hf⟩ : ∃ f, f = finB m e := ⟨_, rfl⟩
  have HV := hideT' (rfl : nextV g m e = nextV g m e)
  obtain ⟨V, hV⟩ : ∃ V, V = nextV g m e := ⟨_, rfl⟩
  rw [← hV]
  rw [← hf] at HF HK HZ
  have hV2 := hV
  unfold nextV at hV2
  rw [← hf] at hV2
  obtain ⟨z, hz1⟩ : ∃ z, z = rankZ g m e := ⟨_, rfl⟩
  rw [← hz1] at HK HZ hV2
  clear hV HV hf hz1
  have HVV := hideT' hV2
  clear hV2
  go_enter Try.func20, Try.ntmps20
  go_wp2_with fail
  refine HF.out.mono ?_
  rintro _ w1 ⟨rfl, hW1⟩
  have hs1 := hW1.size
  simp only [World.size_alloc] at hs1
  have hB1 : Below w.heap.size w w1 := hB.trans (hW1.mono (by simp; omega))
  have hR1 := RowAt.below hR hW1 (by simp; omega)
  have hR1' := RowAt.below hR' hW1 (by simp)
  have c0 : w1.cell? ⟨w.heap.size, 0, none⟩ = some (.bool g) := by rw [cell_of_row w1 _ _ _ _ _ hR1]; rfl
  have c1 : w1.cell? ⟨w.heap.size, 1, none⟩ = some (.int .i64 m) := by rw [cell_of_row w1 _ _ _ _ _ hR1]; rfl
  have c2 : w1.cell? ⟨w.heap.size, 2, none⟩ = some (.int .i64 e) := by rw [cell_of_row w1 _ _ _ _ _ hR1]; rfl
  clear hR hR' hB hW1 HF
  cases f
  · go_wp2_with (refine store_3 rfl 25 _ _ rfl rfl zero_real.2 (w.heap.size + 1) #[.bool false, .int .i64 0, .int .i64 0] rfl (real_one _ _ _) rfl rfl _ rfl hR1' ?_; intro w2 hR2 hg2 hs2)
    refine bodyPost_ret (res_real_tmp Try.results20 _ _ (w.heap.size + 1) _ _ _ _ rfl rfl hR2) rfl ⟨?_, hB1.grown hg2 hB1.size (by intro k hk; cases hk; omega)⟩
    rw [HVV.out, if_neg (by simp)]
    rfl
  · obtain ⟨hz2, hz3⟩ := HZ.out rfl
    go_wp2_with fail
    refine (HK.out w1 trivial).mono ?_
    rintro _ w2 ⟨rfl, hW2⟩
    have hs2 := hW2.size
    have hB2 : Below w.heap.size w w2 := hB1.trans (hW2.mono (by omega))
    have hR2' := RowAt.below hR1' hW2 (by omega)
    clear hR1 hR1' c0 c1 c2 hW2 hB1
    by_cases h1 : z + 1 = 1360087087465889792
    · have hb : (z + 1 == 1360087087465889792) = true := by simpa using h1
      go_wp2_with (refine store_3 rfl 25 _ _ rfl rfl zero_real.2 (w.heap.size + 1) #[.bool false, .int .i64 0, .int .i64 0] rfl (real_one _ _ _) rfl rfl _ rfl hR2' ?_; intro w3 hR3 hg3 hs3)
      refine bodyPost_ret (res_real_tmp Try.results20 _ _ (w.heap.size + 1) _ _ _ _ rfl rfl hR3) rfl ⟨?_, hB2.grown hg3 hB2.size (by intro k hk; cases hk; omega)⟩
      rw [HVV.out, if_neg (by simp; exact h1)]
      rfl
    · have hb : (z + 1 == 1360087087465889792) = false := by simpa using h1
      have HV2 : Hid (V = .tuple #[.agg #[.bool (decide (z + 1 < 0)), .int .i64 (manOf (z + 1).natAbs : Nat), .int .i64 (expOf (z + 1).natAbs)], .bool true]) := by
        have := HVV.out
        rw [if_pos ⟨trivial, h1⟩] at this
        exact this
      by_cases h2 : z + 1 < 0
      · have h3 : ¬ -(z + 1) < z + 1 := by omega
        go_wp2_with fail
        refine (realAt_any true (z + 1).natAbs (-(z + 1)) w2 (by omega) (by omega)).mono ?_
        rintro _ w3 ⟨rfl, hW3⟩
        have hs3 := hW3.size
        have hB3 : Below w.heap.size w w3 := hB2.trans (hW3.mono (by omega))
        have hR3' := RowAt.below hR2' hW3 (by omega)
        clear hR2' hW3 hB2 HK
        go_wp2_with (refine store_3 rfl 25 _ _ rfl rfl zero_real.2 (w.heap.size + 1) _ rfl (real_one _ _ _) rfl rfl _ rfl hR3' ?_; intro w4 hR4 hg4 hs4)
        refine bodyPost_ret (res_real_tmp Try.results20 _ _ (w.heap.size + 1) _ _ _ _ rfl rfl hR4) rfl ⟨?_, hB3.grown hg4 hB3.size (by intro k hk; cases hk; omega)⟩
        rw [HV2.out, decide_eq_true h2]
        rfl
      · go_wp2_with fail
        refine (realAt_any (decide (z + 1 < 0)) (z + 1).natAbs (z + 1) w2 (by omega) (by omega)).mono ?_
        rintro _ w3 ⟨rfl, hW3⟩
        have hs3 := hW3.size
        have hB3 : Below w.heap.size w w3 := hB2.trans (hW3.mono (by omega))
        have hR3' := RowAt.below hR2' hW3 (by omega)
        clear hR2' hW3 hB2 HK
        go_wp2_with (refine store_3 rfl 25 _ _ rfl rfl zero_real.2 (w.heap.size + 1) _ rfl (real_one _ _ _) rfl rfl _ rfl hR3' ?_; intro w4 hR4 hg4 hs4)
        refine bodyPost_ret (res_real_tmp Try.results20 _ _ (w.heap.size + 1) _ _ _ _ rfl rfl hR4) rfl ⟨?_, hB3.grown hg4 hB3.size (by intro k hk; cases hk; omega)⟩
        rw [HV2.out]
        rfl
end Go.Proofs.Ytoiegaggekgmjaa
