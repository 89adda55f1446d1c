/-
  What lbFinite, GoodReal, lbUp and NextReal of spec answer.
-/
import Derived.Test.YtoiegaggekgmjaaImplReal
namespace Go.Proofs.Ytoiegaggekgmjaa
open Go.RowKit
set_option linter.unusedVariables false

set_option maxHeartbeats 1000000 in
theorem lbFinite_any (g : Bool) (m e : Int) (w : World) :
    Calls Try.prog 29 #[.agg #[.bool g, .int .i64 m, .int .i64 e]] w fun e' w' => e' = .returned (.bool (finB m e)) ∧ Below w.heap.size w w' := by
  have hB : Below w.heap.size w (w.alloc (.cells #[.bool g, .int .i64 m, .int .i64 e] 25)) := (Below.refl _ _).alloc (Nat.le_refl _) _
  have HL := hideT' l1In_any
  by_cases h1 : e = -150
  · subst h1
    by_cases h2 : 0 ≤ m ∧ m ≤ 4503599627370495
    · have hr : finB m (-150) = true := by simp [finB]; omega
      rw [hr]
      clear hr
      go_enter Try.func29, Try.ntmps29
      go_wp2_with fail
      refine (HL.out m 0 4503599627370495 _).mono ?_
      rintro _ _ ⟨rfl, rfl⟩
      rw [decide_eq_true h2.1, decide_eq_true h2.2]
      go_wp2
      go_ret
      exact ⟨rfl, hB⟩
    · have hr : finB m (-150) = (decide (4503599627370496 ≤ m) && decide (m ≤ 9007199254740991)) := by
        unfold finB
        rw [if_pos rfl, ← Bool.decide_and, ← Bool.decide_and]
        exact decide_eq_decide.2 (by omega)
      have hq : (decide (0 ≤ m) && decide (m ≤ 4503599627370495)) = false := by rw [← Bool.decide_and, decide_eq_false h2]
      rw [hr]
      clear hr
      go_enter Try.func29, Try.ntmps29
      go_wp2_with fail
      refine (HL.out m 0 4503599627370495 _).mono ?_
      rintro _ _ ⟨rfl, rfl⟩
      rw [hq]
      clear hq h2
      go_wp2_with fail
      refine (HL.out (-150) (-150) 150 _).mono ?_
      rintro _ _ ⟨rfl, rfl⟩
      rw [show (decide ((-150 : Int) ≤ -150) && decide ((-150 : Int) ≤ 150)) = true by decide]
      go_wp2_with fail
      refine (HL.out m 4503599627370496 9007199254740991 _).mono ?_
      rintro _ _ ⟨rfl, rfl⟩
      go_wp2
      go_ret
      exact ⟨rfl, hB⟩
  · have hb : (e == -150) = false := by simpa using h1
    by_cases h2 : -150 ≤ e ∧ e ≤ 150
    · have hr : finB m e = (decide (4503599627370496 ≤ m) && decide (m ≤ 9007199254740991)) := by
        unfold finB
        rw [if_neg h1, ← Bool.decide_and, ← Bool.decide_and, ← Bool.decide_and, ← Bool.decide_and]
        exact decide_eq_decide.2 (by omega)
      have hq : (decide (-150 ≤ e) && decide (e ≤ 150)) = true := by rw [← Bool.decide_and, decide_eq_true h2]
      rw [hr]
      clear hr
      go_enter Try.func29, Try.ntmps29
      go_wp2_with fail
      refine (HL.out e (-150) 150 _).mono ?_
      rintro _ _ ⟨rfl, rfl⟩
      rw [hq]
      clear hq h2
      go_wp2_with fail
      refine (HL.out m 4503599627370496 9007199254740991 _).mono ?_
      rintro _ _ ⟨rfl, rfl⟩
      go_wp2
      go_ret
      exact ⟨rfl, hB⟩
    · have hr : finB m e = false := by
        unfold finB
        rw [if_neg h1, ← Bool.decide_and, ← Bool.decide_and, ← Bool.decide_and]
        exact decide_eq_false (by omega)
      have hq : (decide (-150 ≤ e) && decide (e ≤ 150)) = false := by rw [← Bool.decide_and, decide_eq_false h2]
      rw [hr]
      clear hr
      go_enter Try.func29, Try.ntmps29
      go_wp2_with fail
      refine (HL.out e (-150) 150 _).mono ?_
      rintro _ _ ⟨rfl, rfl⟩
      rw [hq]
      clear hq h2
      go_wp2
      go_ret
      exact ⟨rfl, hB⟩

set_option maxHeartbeats 1000000 in
theorem specGoodReal_any (g : Bool) (m e : Int) (w : World) :
    Calls Try.prog 11 #[.agg #[.bool g, .int .i64 m, .int .i64 e]] w fun e' w' => e' = .returned (.bool (finB m e || infB m e)) ∧ Below w.heap.size w w' := by
  have hR := RowAt.new w 25 #[.bool g, .int .i64 m, .int .i64 e]
  have hB : Below w.heap.size w (w.alloc (.cells #[.bool g, .int .i64 m, .int .i64 e] 25)) := (Below.refl _ _).alloc (Nat.le_refl _) _
  have HF := hideT' (lbFinite_any g m e (w.alloc (.cells #[.bool g, .int .i64 m, .int .i64 e] 25)))
  obtain ⟨f, hf⟩ : ∃ f, f = finB m e := ⟨_, rfl⟩
  rw [← hf] at HF ⊢
  clear hf
  unfold infB
  cases f
  · by_cases h1 : m = 0
    · subst h1
      by_cases h2 : e = 151
      all_goals
        have hb : (e == 151) = decide (e = 151) := by by_cases h : e = 151 <;> simp [h]
        first | rw [decide_eq_true h2] at hb ⊢ | rw [decide_eq_false h2] at hb ⊢
        clear h2
        go_enter Try.func11, Try.ntmps11
        go_wp2_with fail
        refine HF.out.mono ?_
        rintro _ w1 ⟨rfl, hW1⟩
        have hB1 : Below w.heap.size w w1 := hB.trans (hW1.mono (by simp))
        have hR1 := RowAt.below hR hW1 (by simp)
        have c1 : w1.cell? ⟨w.heap.size, 1, none⟩ = some (.int .i64 0) := by rw [cell_of_row w1 _ _ _ _ _ hR1]; rfl
        have c2 : w1.cell? ⟨w.heap.size, 2, none⟩ = some (.int .i64 e) := by rw [cell_of_row w1 _ _ _ _ _ hR1]; rfl
        clear hR hB hR1 hW1 HF
        go_wp2
        go_ret
        exact ⟨rfl, hB1⟩
    · have hb : (m == 0) = false := by simpa using h1
      rw [decide_eq_false h1]
      go_enter Try.func11, Try.ntmps11
      go_wp2_with fail
      refine HF.out.mono ?_
      rintro _ w1 ⟨rfl, hW1⟩
      have hB1 : Below w.heap.size w w1 := hB.trans (hW1.mono (by simp))
      have hR1 := RowAt.below hR hW1 (by simp)
      have c1 : w1.cell? ⟨w.heap.size, 1, none⟩ = some (.int .i64 m) := by rw [cell_of_row w1 _ _ _ _ _ hR1]; rfl
      clear hR hB hR1 hW1 HF
      go_wp2
      go_ret
      exact ⟨rfl, hB1⟩
  · go_enter Try.func11, Try.ntmps11
    go_wp2_with fail
    refine HF.out.mono ?_
    rintro _ w1 ⟨rfl, hW1⟩
    have hB1 : Below w.heap.size w w1 := hB.trans (hW1.mono (by simp))
    clear hR hB hW1 HF
    go_wp2
    go_ret
    exact ⟨rfl, hB1⟩

theorem row_next {w : World} (o : Obj) (T : TypeId) (cs : Array Value) : RowAt ((w.alloc o).alloc (.cells cs T)) (w.heap.size + 1) T cs := by
  have := RowAt.new (w.alloc o) T cs
  rwa [World.size_alloc] at this
set_option maxHeartbeats 1000000 in
theorem lbUp_any (g : Bool) (m e : Int) (w : World) (h0 : 0 ≤ m) (h1 : m < 9007199254740992) (h2 : -150 ≤ e) (h3 : e ≤ 150) :
    Calls Try.prog 39 #[.agg #[.bool g, .int .i64 m, .int .i64 e]] w fun e' w' => e' = .returned (.agg #[.bool g, .int .i64 (if m = 9007199254740991 then 4503599627370496 else m + 1), .int .i64 (if m = 9007199254740991 then e + 1 else e)]) ∧ Below w.heap.size w w' := by
  have hz := zero_real.1
  by_cases h : m = 9007199254740991
  · subst h
    rw [if_pos rfl, if_pos rfl]
    go_enter Try.func39, Try.ntmps39
    go_wp2
    exact bodyPost_ret (res_real Try.results39 _ _ (w.heap.size + 1) _ _ _ rfl (row_next _ _ _)) rfl ⟨rfl, ((Below.refl _ _).alloc (Nat.le_refl _) _).alloc (by simp) _⟩
  · rw [if_neg h, if_neg h]
    have hb : (m + 1 == 9007199254740992) = false := by simp; omega
    go_enter Try.func39, Try.ntmps39
    go_wp2
    exact bodyPost_ret (res_real Try.results39 _ _ (w.heap.size + 1) _ _ _ rfl (row_next _ _ _)) rfl ⟨rfl, ((Below.refl _ _).alloc (Nat.le_refl _) _).alloc (by simp) _⟩

/-- The next one up. -/
theorem next_up {n : Nat} {e : Int} {g : Bool} (h : FinR n e) (hg : g = false ∨ n = 0) (hl : ¬ ((n : Int) = 9007199254740991 ∧ e = 150)) :
    nextV g n e = .tuple #[.agg #[.bool false, .int .i64 (if (n : Int) = 9007199254740991 then 4503599627370496 else (n : Int) + 1), .int .i64 (if (n : Int) = 9007199254740991 then e + 1 else e)], .bool true] := by
  have hf : finB (n : Int) e = true := (finB_iff _ _).2 ⟨n, rfl, h⟩
  have hi : infB (n : Int) e = false := by
    unfold infB FinR at *
    simp
    omega
  have hr : rankZ g n e + 1 = ((((e + 150).toNat * 4503599627370496 + (n + 1) : Nat)) : Int) := by
    unfold rankZ rankA FinR at *
    rw [hi]
    rcases hg with rfl | rfl
    · simp; omega
    · cases g <;> simp <;> omega
  unfold nextV
  rw [hr]
  have hne : ((((e + 150).toNat * 4503599627370496 + (n + 1) : Nat)) : Int) ≠ 1360087087465889792 := by
    unfold FinR at h
    omega
  rw [if_pos ⟨hf, hne⟩, decide_eq_false (by omega), Int.natAbs_natCast]
  by_cases hn : n = 9007199254740991
  · subst hn
    have hR := rank_of ((e + 150).toNat + 1) 4503599627370496 (by omega) (by omega) (by unfold FinR at h; omega)
    rw [show ((e + 150).toNat + 1) * 4503599627370496 + 4503599627370496 = (e + 150).toNat * 4503599627370496 + (9007199254740991 + 1) by omega] at hR
    rw [hR.1, hR.2, if_pos (by omega), if_pos (by omega)]
    have : (((e + 150).toNat + 1 : Nat) : Int) - 150 = e + 1 := by unfold FinR at h; omega
    rw [this]
    rfl
  · have hR := rank_of (e + 150).toNat (n + 1) (by unfold FinR at h; omega) (by unfold FinR at h; omega) (by unfold FinR at h; omega)
    rw [hR.1, hR.2, if_neg (by omega), if_neg (by omega)]
    have : (((e + 150).toNat : Nat) : Int) - 150 = e := by unfold FinR at h; omega
    rw [this]
    rfl
/-- The next one up of one below 0. -/
theorem next_down {n : Nat} {e : Int} (h : FinR n e) (hn : n ≠ 0) :
    nextV true n e = .tuple #[.agg #[.bool (decide (¬ (n : Int) = 1 ∨ -150 < e)), .int .i64 (if (n : Int) = 4503599627370496 ∧ -150 < e then 9007199254740991 else (n : Int) - 1), .int .i64 (if (n : Int) = 4503599627370496 ∧ -150 < e then e - 1 else e)], .bool true] := by
  have hf : finB (n : Int) e = true := (finB_iff _ _).2 ⟨n, rfl, h⟩
  have hi : infB (n : Int) e = false := by
    unfold infB FinR at *
    simp
    omega
  have hr : rankZ true n e + 1 = -((((e + 150).toNat * 4503599627370496 + (n - 1) : Nat)) : Int) := by
    unfold rankZ rankA FinR at *
    rw [hi]
    simp; omega
  unfold nextV
  rw [hr]
  rw [if_pos ⟨hf, by omega⟩, Int.natAbs_neg, Int.natAbs_natCast]
  have hd : decide (-((((e + 150).toNat * 4503599627370496 + (n - 1) : Nat)) : Int) < 0) = decide (¬ (n : Int) = 1 ∨ -150 < e) := decide_eq_decide.2 (by unfold FinR at h; omega)
  rw [hd]
  by_cases hc : (n : Int) = 4503599627370496 ∧ -150 < e
  · have hR := rank_of ((e + 150).toNat - 1) 9007199254740991 (by omega) (by omega) (by unfold FinR at h; omega)
    rw [show ((e + 150).toNat - 1) * 4503599627370496 + 9007199254740991 = (e + 150).toNat * 4503599627370496 + (n - 1) by omega] at hR
    rw [hR.1, hR.2, if_pos hc, if_pos hc]
    have : (((e + 150).toNat - 1 : Nat) : Int) - 150 = e - 1 := by omega
    rw [this]
    rfl
  · have hR := rank_of (e + 150).toNat (n - 1) (by unfold FinR at h; omega) (by unfold FinR at h; omega) (by unfold FinR at h; omega)
    rw [hR.1, hR.2, if_neg hc, if_neg hc]
    have h1 : (((e + 150).toNat : Nat) : Int) - 150 = e := by unfold FinR at h; omega
    have h2 : ((n - 1 : Nat) : Int) = (n : Int) - 1 := by omega
    rw [h1, h2]
theorem next_last {e : Int} {n : Nat} (h1 : (n : Int) = 9007199254740991) (h2 : e = 150) : nextV false n e = .tuple #[.agg #[.bool false, .int .i64 0, .int .i64 0], .bool false] := by
  subst h2
  unfold nextV
  rw [if_neg]
  rintro ⟨_, h⟩
  refine h ?_
  rw [h1]
  decide
theorem next_none {g : Bool} {m e : Int} (h : finB m e = false) : nextV g m e = .tuple #[.agg #[.bool false, .int .i64 0, .int .i64 0], .bool false] := by
  unfold nextV
  rw [if_neg (by rw [h]; simp)]

theorem wpList_idR {ops : Array Oper} {rest : List Oper} {a : Act} {w : World} {Q : Exit → Act → World → Prop} (h : wpList Try.prog ops Q rest a w) : wpList Try.prog ops Q rest a w := h
theorem RowAt.set {w : World} {b k o : Nat} {t : TypeId} {cs : Array Value} {v : Value} (h : RowAt w b t cs) (hne : k ≠ b) : RowAt (w.setCell ⟨k, o, none⟩ v) b t cs :=
  h.grown (grown_set w k o v) (by intro h; cases h; exact hne rfl)
set_option maxHeartbeats 2000000 in
theorem specNextReal_any (g : Bool) (m e : Int) (w : World) :
    Calls Try.prog 19 #[.agg #[.bool g, .int .i64 m, .int .i64 e]] w fun e' w' => e' = .returned (nextV g m e) ∧ Below w.heap.size w w' := by
  have hz := zero_real.1
  have hR := (RowAt.new w 25 #[.bool g, .int .i64 m, .int .i64 e]).old (.cells #[.bool false, .int .i64 0, .int .i64 0] 25)
  have hR' := row_next (w := w) (.cells #[.bool g, .int .i64 m, .int .i64 e] 25) 25 #[.bool false, .int .i64 0, .int .i64 0]
  have hB : Below w.heap.size w ((w.alloc (.cells #[.bool g, .int .i64 m, .int .i64 e] 25)).alloc (.cells #[.bool false, .int .i64 0, .int .i64 0] 25)) := ((Below.refl _ _).alloc (Nat.le_refl _) _).alloc (by simp) _
  have HF := hideT' (lbFinite_any g m e ((w.alloc (.cells #[.bool g, .int .i64 m, .int .i64 e] 25)).alloc (.cells #[.bool false, .int .i64 0, .int .i64 0] 25)))
  obtain ⟨f, hf⟩ : ∃ f, f = finB m e := ⟨_, rfl⟩
  rw [← hf] at HF
  obtain ⟨V, hV⟩ : ∃ V, V = nextV g m e := ⟨_, rfl⟩
  rw [← hV]
  have HV := hideT' hV
  have HFF := hideT' hf
  clear hf hV
  go_enter Try.func19, Try.ntmps19
  go_wp2_with fail
  refine HF.out.mono ?_
  rintro _ w1 ⟨rfl, hW1⟩
  have hs1 := hW1.size
  simp only [World.size_alloc] at hs1
  have hB1 : Below w.heap.size w w1 := hB.trans (hW1.mono (by simp; omega))
  have hR1 := RowAt.below hR hW1 (by simp; omega)
  have hR1' := RowAt.below hR' hW1 (by simp)
  have c0 : w1.cell? ⟨w.heap.size, 0, none⟩ = some (.bool g) := by rw [cell_of_row w1 _ _ _ _ _ hR1]; rfl
  have c1 : w1.cell? ⟨w.heap.size, 1, none⟩ = some (.int .i64 m) := by rw [cell_of_row w1 _ _ _ _ _ hR1]; rfl
  have c2 : w1.cell? ⟨w.heap.size, 2, none⟩ = some (.int .i64 e) := by rw [cell_of_row w1 _ _ _ _ _ hR1]; rfl
  have f0 : w1.frozen? ⟨w.heap.size, 0, none⟩ = false := frozen_of_row w1 _ _ _ _ hR1
  have f1 : w1.frozen? ⟨w.heap.size, 1, none⟩ = false := frozen_of_row w1 _ _ _ _ hR1
  have f2 : w1.frozen? ⟨w.heap.size, 2, none⟩ = false := frozen_of_row w1 _ _ _ _ hR1
  clear hR hR' hB hW1 HF
  cases f
  · go_wp2_with (with_reducible refine wpList_idR ?_; refine store_3 rfl 25 _ _ rfl rfl zero_real.2 (w.heap.size + 1) #[.bool false, .int .i64 0, .int .i64 0] rfl (real_one _ _ _) rfl rfl _ rfl hR1' ?_; intro w2 hR2 hg2 hs2)
    refine bodyPost_ret (res_real_tmp Try.results19 _ _ (w.heap.size + 1) _ _ _ _ rfl rfl hR2) rfl ⟨?_, hB1.grown hg2 hB1.size (by intro k hk; cases hk; omega)⟩
    rw [HV.out, next_none HFF.out.symm]
    rfl
  · obtain ⟨n, rfl, hf⟩ := (finB_iff m e).1 HFF.out.symm
    have hbd : (n : Int) < 9007199254740992 ∧ -150 ≤ e ∧ e ≤ 150 := by unfold FinR at hf; omega
    obtain ⟨b1, b2, b3⟩ := hbd
    have b0 : 0 ≤ (n : Int) := by omega
    have HN := hideT' hf
    obtain ⟨m, hm⟩ : ∃ m : Int, m = (n : Int) := ⟨_, rfl⟩
    rw [← hm] at c1 b0 b1
    have HM := hideT' hm
    clear hf hR1 HFF hm
    cases g
    · by_cases hA : m = 9007199254740991
      · subst hA
        by_cases hE : e = 150
        · subst hE
          go_wp2_with (with_reducible refine wpList_idR ?_; refine store_3 rfl 25 _ _ rfl rfl zero_real.2 (w.heap.size + 1) #[.bool false, .int .i64 0, .int .i64 0] rfl (real_one _ _ _) rfl rfl _ rfl hR1' ?_; intro w2 hR2 hg2 hs2)
          refine bodyPost_ret (res_real_tmp Try.results19 _ _ (w.heap.size + 1) _ _ _ _ rfl rfl hR2) rfl ⟨?_, hB1.grown hg2 hB1.size (by intro k hk; cases hk; omega)⟩
          rw [HV.out, next_last HM.out.symm rfl]
          rfl
        · have hEb : (e == 150) = false := by simpa using hE
          go_wp2_with fail
          refine (lbUp_any false 9007199254740991 e _ (by omega) (by omega) (by omega) (by omega)).mono ?_
          rintro _ w2 ⟨rfl, hW2⟩
          have hs2 : w1.heap.size ≤ w2.heap.size := by have := hW2.size; simpa using this
          have hB2 : Below w.heap.size w w2 := (hB1.setCell (by simp) _).trans (hW2.mono (by simp; omega))
          have hR2' := RowAt.below (RowAt.set (k := w.heap.size) (o := 0) (v := .bool false) hR1' (by omega)) hW2 (by simp; omega)
          clear hR1' hW2 hB1 c0 c1 c2 f0 f1 f2
          go_wp2_with (with_reducible refine wpList_idR ?_; refine store_3 rfl 25 _ _ rfl rfl zero_real.2 (w.heap.size + 1) _ rfl (real_one _ _ _) rfl rfl _ rfl hR2' ?_; intro w3 hR3 hg3 hs3)
          refine bodyPost_ret (res_real_tmp Try.results19 _ _ (w.heap.size + 1) _ _ _ _ rfl rfl hR3) rfl ⟨?_, hB2.grown hg3 hB2.size (by intro k hk; cases hk; omega)⟩
          rw [HV.out, next_up HN.out (.inl rfl) (by have := HM.out; omega)]
          have := HM.out
          rw [← this]
          rfl
      · have hAb : (m == 9007199254740991) = false := by simpa using hA
        go_wp2_with fail
        refine (lbUp_any false m e _ (by omega) (by omega) (by omega) (by omega)).mono ?_
        rintro _ w2 ⟨rfl, hW2⟩
        have hs2 : w1.heap.size ≤ w2.heap.size := by have := hW2.size; simpa using this
        have hB2 : Below w.heap.size w w2 := (hB1.setCell (by simp) _).trans (hW2.mono (by simp; omega))
        have hR2' := RowAt.below (RowAt.set (k := w.heap.size) (o := 0) (v := .bool false) hR1' (by omega)) hW2 (by simp; omega)
        clear hR1' hW2 hB1 c0 c1 c2 f0 f1 f2
        go_wp2_with (with_reducible refine wpList_idR ?_; refine store_3 rfl 25 _ _ rfl rfl zero_real.2 (w.heap.size + 1) _ rfl (real_one _ _ _) rfl rfl _ rfl hR2' ?_; intro w3 hR3 hg3 hs3)
        refine bodyPost_ret (res_real_tmp Try.results19 _ _ (w.heap.size + 1) _ _ _ _ rfl rfl hR3) rfl ⟨?_, hB2.grown hg3 hB2.size (by intro k hk; cases hk; omega)⟩
        rw [HV.out, next_up HN.out (.inl rfl) (by have := HM.out; omega)]
        have := HM.out
        rw [← this, if_neg hA, if_neg hA]
        rfl
    · by_cases hA : m = 0
      · subst hA
        go_wp2_with fail
        refine (lbUp_any false 0 e _ (by omega) (by omega) (by omega) (by omega)).mono ?_
        rintro _ w2 ⟨rfl, hW2⟩
        have hs2 : w1.heap.size ≤ w2.heap.size := by have := hW2.size; simpa using this
        have hB2 : Below w.heap.size w w2 := (hB1.setCell (by simp) _).trans (hW2.mono (by simp; omega))
        have hR2' := RowAt.below (RowAt.set (k := w.heap.size) (o := 0) (v := .bool false) hR1' (by omega)) hW2 (by simp; omega)
        clear hR1' hW2 hB1 c0 c1 c2 f0 f1 f2
        go_wp2_with (with_reducible refine wpList_idR ?_; refine store_3 rfl 25 _ _ rfl rfl zero_real.2 (w.heap.size + 1) _ rfl (real_one _ _ _) rfl rfl _ rfl hR2' ?_; intro w3 hR3 hg3 hs3)
        refine bodyPost_ret (res_real_tmp Try.results19 _ _ (w.heap.size + 1) _ _ _ _ rfl rfl hR3) rfl ⟨?_, hB2.grown hg3 hB2.size (by intro k hk; cases hk; omega)⟩
        rw [HV.out, next_up HN.out (.inr (by have := HM.out; omega)) (by have := HM.out; omega)]
        have := HM.out
        rw [← this]
        rfl
      · have hAb : (m == 0) = false := by simpa using hA
        have hm0 : 0 < m := by omega
        clear hA
        by_cases hC : m = 4503599627370496
        · subst hC
          by_cases hE : -150 < e
          · have HD : Hid (decide (¬ (4503599627370496 : Int) = 1 ∨ -150 < e) = true) := decide_eq_true (.inl (by omega))
            go_wp2_with (with_reducible refine wpList_idR ?_; refine store_3 rfl 25 _ _ rfl rfl zero_real.2 (w.heap.size + 1) _ rfl (real_one _ _ _) rfl rfl #[.bool false, .int .i64 0, .int .i64 0] rfl (by first | exact RowAt.set (RowAt.set (RowAt.set hR1' (by omega)) (by omega)) (by omega) | exact RowAt.set (RowAt.set hR1' (by omega)) (by omega) | exact RowAt.set hR1' (by omega)) ?_; intro w3 hR3 hg3 hs3)
            have hB2 : Below w.heap.size w w3 := Below.grown (by first | exact ((hB1.setCell (by simp) _).setCell (by simp) _).setCell (by simp) _ | exact (hB1.setCell (by simp) _).setCell (by simp) _ | exact hB1.setCell (by simp) _) hg3 (by simp; omega) (by intro k hk; cases hk; omega)
            refine bodyPost_ret (res_real_tmp Try.results19 _ _ (w.heap.size + 1) _ _ _ _ rfl rfl hR3) rfl ⟨?_, hB2⟩
            rw [HV.out, next_down HN.out (by have := HM.out; omega)]
            have hmn := HM.out
            rw [← hmn]
            rw [HD.out, if_pos ⟨rfl, hE⟩, if_pos ⟨rfl, hE⟩]
            rfl
          · have HD : Hid (decide (¬ (4503599627370496 : Int) = 1 ∨ -150 < e) = true) := decide_eq_true (.inl (by omega))
            have hE' : e ≤ -150 := by omega
            have HE := hideT' hE
            clear hE
            go_wp2_with (with_reducible refine wpList_idR ?_; refine store_3 rfl 25 _ _ rfl rfl zero_real.2 (w.heap.size + 1) _ rfl (real_one _ _ _) rfl rfl #[.bool false, .int .i64 0, .int .i64 0] rfl (by first | exact RowAt.set (RowAt.set (RowAt.set hR1' (by omega)) (by omega)) (by omega) | exact RowAt.set (RowAt.set hR1' (by omega)) (by omega) | exact RowAt.set hR1' (by omega)) ?_; intro w3 hR3 hg3 hs3)
            have hB2 : Below w.heap.size w w3 := Below.grown (by first | exact ((hB1.setCell (by simp) _).setCell (by simp) _).setCell (by simp) _ | exact (hB1.setCell (by simp) _).setCell (by simp) _ | exact hB1.setCell (by simp) _) hg3 (by simp; omega) (by intro k hk; cases hk; omega)
            refine bodyPost_ret (res_real_tmp Try.results19 _ _ (w.heap.size + 1) _ _ _ _ rfl rfl hR3) rfl ⟨?_, hB2⟩
            rw [HV.out, next_down HN.out (by have := HM.out; omega)]
            have hmn := HM.out
            rw [← hmn]
            rw [HD.out, if_neg (by intro h; have := h.2; omega), if_neg (by intro h; have := h.2; omega)]
            rfl
        · have hCb : (m - 1 == 4503599627370495) = false := by simp; omega
          have HC := hideT' hC
          clear hC
          by_cases hO : m = 1
          · subst hO
            have hE' : e ≤ -150 := by have := HN.out; have := HM.out; unfold FinR at *; omega
            clear hCb
            go_wp2_with (with_reducible refine wpList_idR ?_; refine store_3 rfl 25 _ _ rfl rfl zero_real.2 (w.heap.size + 1) _ rfl (real_one _ _ _) rfl rfl #[.bool false, .int .i64 0, .int .i64 0] rfl (by first | exact RowAt.set (RowAt.set (RowAt.set hR1' (by omega)) (by omega)) (by omega) | exact RowAt.set (RowAt.set hR1' (by omega)) (by omega) | exact RowAt.set hR1' (by omega)) ?_; intro w3 hR3 hg3 hs3)
            have hB2 : Below w.heap.size w w3 := Below.grown (by first | exact ((hB1.setCell (by simp) _).setCell (by simp) _).setCell (by simp) _ | exact (hB1.setCell (by simp) _).setCell (by simp) _ | exact hB1.setCell (by simp) _) hg3 (by simp; omega) (by intro k hk; cases hk; omega)
            refine bodyPost_ret (res_real_tmp Try.results19 _ _ (w.heap.size + 1) _ _ _ _ rfl rfl hR3) rfl ⟨?_, hB2⟩
            rw [HV.out, next_down HN.out (by have := HM.out; omega)]
            have hmn := HM.out
            rw [← hmn]
            rw [decide_eq_false (show ¬ (¬ (1 : Int) = 1 ∨ -150 < e) by omega), if_neg (by intro h; exact HC.out h.1), if_neg (by intro h; exact HC.out h.1)]
            rfl
          · have hOb : (m - 1 == 0) = false := by simp; omega
            have HD : Hid (decide (¬ m = 1 ∨ -150 < e) = true) := decide_eq_true (.inl hO)
            clear hO
            go_wp2_with (with_reducible refine wpList_idR ?_; refine store_3 rfl 25 _ _ rfl rfl zero_real.2 (w.heap.size + 1) _ rfl (real_one _ _ _) rfl rfl #[.bool false, .int .i64 0, .int .i64 0] rfl (by first | exact RowAt.set (RowAt.set (RowAt.set hR1' (by omega)) (by omega)) (by omega) | exact RowAt.set (RowAt.set hR1' (by omega)) (by omega) | exact RowAt.set hR1' (by omega)) ?_; intro w3 hR3 hg3 hs3)
            have hB2 : Below w.heap.size w w3 := Below.grown (by first | exact ((hB1.setCell (by simp) _).setCell (by simp) _).setCell (by simp) _ | exact (hB1.setCell (by simp) _).setCell (by simp) _ | exact hB1.setCell (by simp) _) hg3 (by simp; omega) (by intro k hk; cases hk; omega)
            refine bodyPost_ret (res_real_tmp Try.results19 _ _ (w.heap.size + 1) _ _ _ _ rfl rfl hR3) rfl ⟨?_, hB2⟩
            rw [HV.out, next_down HN.out (by have := HM.out; omega)]
            have hmn := HM.out
            rw [← hmn]
            rw [HD.out, if_neg (by intro h; exact HC.out h.1), if_neg (by intro h; exact HC.out h.1)]
            rfl
end Go.Proofs.Ytoiegaggekgmjaa
