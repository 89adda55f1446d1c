/-
  What lbFinite, GoodReal, lbUp and NextReal of spec answer.
-/
import Derived.Test.YteglkbgcgookhaaDoorImplReal
namespace Go.Proofs.YteglkbgcgookhaaDoor
open Go.RowKit
set_option linter.unusedVariables false

set_option maxHeartbeats 1000000 in
theorem lbFinite_any (g : Bool) (m e : Int) (w : World) :
    Calls Tryd.prog 24 #[.agg #[.bool g, .int .i64 m, .int .i64 e]] w fun e' w' => e' = .returned (.bool (finB m e)) ∧ Below w.heap.size w w' := by
  have hB : Below w.heap.size w (w.alloc (.cells #[.bool g, .int .i64 m, .int .i64 e] 26)) := (Below.refl _ _).alloc (Nat.le_refl _) _
  have HL := hideT' l1In_any
  by_cases h1 : e = -150
  · subst h1
    by_cases h2 : 0 ≤ m ∧ m ≤ 4503599627370495
    · have hr : finB m (-150) = true := by simp [finB]; omega
      rw [hr]
      clear hr
      go_enter Tryd.func24, Tryd.ntmps24
      go_wp2_with fail
      refine (HL.out m 0 4503599627370495 _).mono ?_
      rintro _ _ ⟨rfl, rfl⟩
      rw [decide_eq_true h2.1, decide_eq_true h2.2]
      go_wp2
      go_ret
      exact ⟨rfl, hB⟩
    · have hr : finB m (-150) = (decide (4503599627370496 ≤ m) && decide (m ≤ 9007199254740991)) := by
        unfold finB
        rw [if_pos rfl, ← Bool.decide_and, ← Bool.decide_and]
        exact decide_eq_decide.2 (by omega)
      have hq : (decide (0 ≤ m) && decide (m ≤ 4503599627370495)) = false := by rw [← Bool.decide_and, decide_eq_false h2]
      rw [hr]
      clear hr
      go_enter Tryd.func24, Tryd.ntmps24
      go_wp2_with fail
      refine (HL.out m 0 4503599627370495 _).mono ?_
      rintro _ _ ⟨rfl, rfl⟩
      rw [hq]
      clear hq h2
      go_wp2_with fail
      refine (HL.out (-150) (-150) 150 _).mono ?_
      rintro _ _ ⟨rfl, rfl⟩
      rw [show (decide ((-150 : Int) ≤ -150) && decide ((-150 : Int) ≤ 150)) = true by decide]
      go_wp2_with fail
      refine (HL.out m 4503599627370496 9007199254740991 _).mono ?_
      rintro _ _ ⟨rfl, rfl⟩
      go_wp2
      go_ret
      exact ⟨rfl, hB⟩
  · have hb : (e == -150) = false := by simpa using h1
    by_cases h2 : -150 ≤ e ∧ e ≤ 150
    · have hr : finB m e = (decide (4503599627370496 ≤ m) && decide (m ≤ 9007199254740991)) := by
        unfold finB
        rw [if_neg h1, ← Bool.decide_and, ← Bool.decide_and, ← Bool.decide_and, ← Bool.decide_and]
        exact decide_eq_decide.2 (by omega)
      have hq : (decide (-150 ≤ e) && decide (e ≤ 150)) = true := by rw [← Bool.decide_and, decide_eq_true h2]
      rw [hr]
      clear hr
      go_enter Tryd.func24, Tryd.ntmps24
      go_wp2_with fail
      refine (HL.out e (-150) 150 _).mono ?_
      rintro _ _ ⟨rfl, rfl⟩
      rw [hq]
      clear hq h2
      go_wp2_with fail
      refine (HL.out m 4503599627370496 9007199254740991 _).mono ?_
      rintro _ _ ⟨rfl, rfl⟩
      go_wp2
      go_ret
      exact ⟨rfl, hB⟩
    · have hr : finB m e = false := by
        unfold finB
        rw [if_neg h1, ← Bool.decide_and, ← Bool.decide_and, ← Bool.decide_and]
        exact decide_eq_false (by omega)
      have hq : (decide (-150 ≤ e) && decide (e ≤ 150)) = false := by rw [← Bool.decide_and, decide_eq_false h2]
      rw [hr]
      clear hr
      go_enter Tryd.func24, Tryd.ntmps24
      go_wp2_with fail
      refine (HL.out e (-150) 150 _).mono ?_
      rintro _ _ ⟨rfl, rfl⟩
      rw [hq]
      clear hq h2
      go_wp2
      go_ret
      exact ⟨rfl, hB⟩

theorem row_next {w : World} (o : Obj) (T : TypeId) (cs : Array Value) : RowAt ((w.alloc o).alloc (.cells cs T)) (w.heap.size + 1) T cs := by
  have := RowAt.new (w.alloc o) T cs
  rwa [World.size_alloc] at this
/-- The next one up. -/
theorem next_up {n : Nat} {e : Int} {g : Bool} (h : FinR n e) (hg : g = false ∨ n = 0) (hl : ¬ ((n : Int) = 9007199254740991 ∧ e = 150)) :
    nextV g n e = .tuple #[.agg #[.bool false, .int .i64 (if (n : Int) = 9007199254740991 then 4503599627370496 else (n : Int) + 1), .int .i64 (if (n : Int) = 9007199254740991 then e + 1 else e)], .bool true] := by
  have hf : finB (n : Int) e = true := (finB_iff _ _).2 ⟨n, rfl, h⟩
  have hi : infB (n : Int) e = false := by
    unfold infB FinR at *
    simp
    omega
  have hr : rankZ g n e + 1 = ((((e + 150).toNat * 4503599627370496 + (n + 1) : Nat)) : Int) := by
    unfold rankZ rankA FinR at *
    rw [hi]
    rcases hg with rfl | rfl
    · simp; omega
    · cases g <;> simp <;> omega
  unfold nextV
  rw [hr]
  have hne : ((((e + 150).toNat * 4503599627370496 + (n + 1) : Nat)) : Int) ≠ 1360087087465889792 := by
    unfold FinR at h
    omega
  rw [if_pos ⟨hf, hne⟩, decide_eq_false (by omega), Int.natAbs_natCast]
  by_cases hn : n = 9007199254740991
  · subst hn
    have hR := rank_of ((e + 150).toNat + 1) 4503599627370496 (by omega) (by omega) (by unfold FinR at h; omega)
    rw [show ((e + 150).toNat + 1) * 4503599627370496 + 4503599627370496 = (e + 150).toNat * 4503599627370496 + (9007199254740991 + 1) by omega] at hR
    rw [hR.1, hR.2, if_pos (by omega), if_pos (by omega)]
    have : (((e + 150).toNat + 1 : Nat) : Int) - 150 = e + 1 := by unfold FinR at h; omega
    rw [this]
    rfl
  · have hR := rank_of (e + 150).toNat (n + 1) (by unfold FinR at h; omega) (by unfold FinR at h; omega) (by unfold FinR at h; omega)
    rw [hR.1, hR.2, if_neg (by omega), if_neg (by omega)]
    have : (((e + 150).toNat : Nat) : Int) - 150 = e := by unfold FinR at h; omega
    rw [this]
    rfl
/-- The next one up of one below 0. -/
theorem next_down {n : Nat} {e : Int} (h : FinR n e) (hn : n ≠ 0) :
    nextV true n e = .tuple #[.agg #[.bool (decide (¬ (n : Int) = 1 ∨ -150 < e)), .int .i64 (if (n : Int) = 4503599627370496 ∧ -150 < e then 9007199254740991 else (n : Int) - 1), .int .i64 (if (n : Int) = 4503599627370496 ∧ -150 < e then e - 1 else e)], .bool true] := by
  have hf : finB (n : Int) e = true := (finB_iff _ _).2 ⟨n, rfl, h⟩
  have hi : infB (n : Int) e = false := by
    unfold infB FinR at *
    simp
    omega
  have hr : rankZ true n e + 1 = -((((e + 150).toNat * 4503599627370496 + (n - 1) : Nat)) : Int) := by
    unfold rankZ rankA FinR at *
    rw [hi]
    simp; omega
  unfold nextV
  rw [hr]
  rw [if_pos ⟨hf, by omega⟩, Int.natAbs_neg, Int.natAbs_natCast]
  have hd : decide (-((((e + 150).toNat * 4503599627370496 + (n - 1) : Nat)) : Int) < 0) = decide (¬ (n : Int) = 1 ∨ -150 < e) := decide_eq_decide.2 (by unfold FinR at h; omega)
  rw [hd]
  by_cases hc : (n : Int) = 4503599627370496 ∧ -150 < e
  · have hR := rank_of ((e + 150).toNat - 1) 9007199254740991 (by omega) (by omega) (by unfold FinR at h; omega)
    rw [show ((e + 150).toNat - 1) * 4503599627370496 + 9007199254740991 = (e + 150).toNat * 4503599627370496 + (n - 1) by omega] at hR
    rw [hR.1, hR.2, if_pos hc, if_pos hc]
    have : (((e + 150).toNat - 1 : Nat) : Int) - 150 = e - 1 := by omega
    rw [this]
    rfl
  · have hR := rank_of (e + 150).toNat (n - 1) (by unfold FinR at h; omega) (by unfold FinR at h; omega) (by unfold FinR at h; omega)
    rw [hR.1, hR.2, if_neg hc, if_neg hc]
    have h1 : (((e + 150).toNat : Nat) : Int) - 150 = e := by unfold FinR at h; omega
    have h2 : ((n - 1 : Nat) : Int) = (n : Int) - 1 := by omega
    rw [h1, h2]
theorem next_last {e : Int} {n : Nat} (h1 : (n : Int) = 9007199254740991) (h2 : e = 150) : nextV false n e = .tuple #[.agg #[.bool false, .int .i64 0, .int .i64 0], .bool false] := by
  subst h2
  unfold nextV
  rw [if_neg]
  rintro ⟨_, h⟩
  refine h ?_
  rw [h1]
  decide
theorem next_none {g : Bool} {m e : Int} (h : finB m e = false) : nextV g m e = .tuple #[.agg #[.bool false, .int .i64 0, .int .i64 0], .bool false] := by
  unfold nextV
  rw [if_neg (by rw [h]; simp)]

theorem wpList_idR {ops : Array Oper} {rest : List Oper} {a : Act} {w : World} {Q : Exit → Act → World → Prop} (h : wpList Tryd.prog ops Q rest a w) : wpList Tryd.prog ops Q rest a w := h
theorem RowAt.set {w : World} {b k o : Nat} {t : TypeId} {cs : Array Value} {v : Value} (h : RowAt w b t cs) (hne : k ≠ b) : RowAt (w.setCell ⟨k, o, none⟩ v) b t cs :=
  h.grown (grown_set w k o v) (by intro h; cases h; exact hne rfl)
end Go.Proofs.YteglkbgcgookhaaDoor
