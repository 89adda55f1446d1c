/-
  Reals of chapter 9 in memory, and what isFinite, isInfinite, rank, realAt of impl answer.
-/
import Derived.Test.YtoiegaggekgmjaaL1In
import Derived.Test.YtoiegaggekgmjaaRealMath
import Derived.Test.YtoiegaggekgmjaaBaseHeld
import Derived.Deep.WholeRow
import Derived.Laws.Rows
import Derived.Test.YtoiegaggekgmjaaBaseRow
namespace Go.Proofs.Ytoiegaggekgmjaa
open Go.RowKit
set_option linter.unusedVariables false

theorem zero_real : (∀ w, (zeroValue 25).run Try.prog w = .ok (.agg #[.bool false, .int .i64 0, .int .i64 0]) w) ∧ (Try.prog.info? 25).map (·.size) = some 3 := zero_of_info (by kernel_rfl)
theorem real_info (g : Bool) (m e : Int) : (Try.prog.info? 25).map (·.size) = some (#[.bool g, .int .i64 m, .int .i64 e] : Array Value).size := zero_real.2
theorem res_real {fn : Func} {x : Tmp} (h : fn.results = #[.cell x 25]) (tmps : Array Value) (w : World) (b : Nat) (g : Bool) (m e : Int)
    (hp : tmps.getD x undef = .pointer (some ⟨b, 0, none⟩)) (hN : RowAt w b 25 #[.bool g, .int .i64 m, .int .i64 e]) : (results fn tmps).run Try.prog w = .ok (.agg #[.bool g, .int .i64 m, .int .i64 e]) w :=
  results_cell_row h tmps w b 25 #[.bool g, .int .i64 m, .int .i64 e] (0, 0) _ hp hN Try.underlying25 rfl (real_info g m e)
theorem res_real_tmp {fn : Func} {x u : Tmp} (h : fn.results = #[.cell x 25, .tmp u]) (tmps : Array Value) (w : World) (b : Nat) (g : Bool) (m e : Int) (v : Value)
    (hp : tmps.getD x undef = .pointer (some ⟨b, 0, none⟩)) (hv : tmps.getD u undef = v) (hN : RowAt w b 25 #[.bool g, .int .i64 m, .int .i64 e]) : (results fn tmps).run Try.prog w = .ok (.tuple #[.agg #[.bool g, .int .i64 m, .int .i64 e], v]) w := by
  rw [results_cell_tmp h, hp, hv]
  simp only [asAddr, Sem.run_pure, Result.andThen, run_loadVar_row w b 25 25 #[.bool g, .int .i64 m, .int .i64 e] (0, 0) _ hN Try.underlying25 rfl (real_info g m e)]
theorem real_one (g : Bool) (m e : Int) : (#[.bool g, .int .i64 m, .int .i64 e] : Array Value).all (·.oneCell') = true := by
  rw [Array.all_eq_true_iff_forall_mem]
  intro v hv
  simp at hv
  rcases hv with rfl | rfl | rfl <;> rfl
def realC (g : Bool) (m e : Int) : Array Value := #[.bool g, .int .i64 m, .int .i64 e]
def finB (m e : Int) : Bool := if e = -150 then decide (0 ≤ m) && decide (m < 9007199254740992) else decide (-150 < e) && decide (e ≤ 150) && decide (4503599627370496 ≤ m) && decide (m < 9007199254740992)
def infB (m e : Int) : Bool := decide (m = 0) && decide (e = 151)
theorem finB_iff (m e : Int) : finB m e = true ↔ ∃ n : Nat, m = (n : Int) ∧ FinR n e := by
  unfold finB FinR
  constructor
  · intro h
    refine ⟨m.toNat, ?_, ?_⟩
    · split at h <;> simp at h <;> omega
    · split at h <;> simp at h <;> omega
  · rintro ⟨n, rfl, h⟩
    split <;> simp <;> omega

set_option maxHeartbeats 1000000 in
set_option maxRecDepth 100000 in
theorem isFinite_any (g : Bool) (m e : Int) (w : World) :
    Calls Try.prog 30 #[.agg #[.bool g, .int .i64 m, .int .i64 e]] w fun e' w' => e' = .returned (.bool (finB m e)) ∧ Below w.heap.size w w' := by
  have hB : Below w.heap.size w (w.alloc (.cells #[.bool g, .int .i64 m, .int .i64 e] 25)) := (Below.refl _ _).alloc (Nat.le_refl _) _
  by_cases h1 : e = -150
  · subst h1
    have hr : finB m (-150) = (decide (0 ≤ m) && decide (m < 9007199254740992)) := by simp [finB]
    rw [hr]
    by_cases h2 : 0 ≤ m
    · by_cases h3 : m < 9007199254740992
      · rw [decide_eq_true h2, decide_eq_true h3]
        clear hr
        go_enter Try.func30, Try.ntmps30
        go_wp2
        go_ret
        exact ⟨rfl, hB⟩
      · rw [decide_eq_true h2, decide_eq_false h3]
        clear hr
        go_enter Try.func30, Try.ntmps30
        go_wp2
        go_ret
        exact ⟨rfl, hB⟩
    · rw [decide_eq_false h2]
      clear hr
      go_enter Try.func30, Try.ntmps30
      go_wp2
      go_ret
      exact ⟨rfl, hB⟩
  · have hr : finB m e = (decide (-150 < e) && decide (e ≤ 150) && decide (4503599627370496 ≤ m) && decide (m < 9007199254740992)) := by simp [finB, h1]
    rw [hr]
    clear hr
    by_cases h2 : -150 < e
    · by_cases h3 : e ≤ 150
      · by_cases h4 : 4503599627370496 ≤ m
        · by_cases h5 : m < 9007199254740992
          · rw [decide_eq_true h2, decide_eq_true h3, decide_eq_true h4, decide_eq_true h5]
            go_enter Try.func30, Try.ntmps30
            go_wp2
            go_ret
            exact ⟨rfl, hB⟩
          · rw [decide_eq_true h2, decide_eq_true h3, decide_eq_true h4, decide_eq_false h5]
            go_enter Try.func30, Try.ntmps30
            go_wp2
            go_ret
            exact ⟨rfl, hB⟩
        · rw [decide_eq_true h2, decide_eq_true h3, decide_eq_false h4]
          go_enter Try.func30, Try.ntmps30
          go_wp2
          go_ret
          exact ⟨rfl, hB⟩
      · rw [decide_eq_true h2, decide_eq_false h3]
        go_enter Try.func30, Try.ntmps30
        go_wp2
        go_ret
        exact ⟨rfl, hB⟩
    · rw [decide_eq_false h2]
      go_enter Try.func30, Try.ntmps30
      go_wp2
      go_ret
      exact ⟨rfl, hB⟩

set_option maxHeartbeats 1000000 in
theorem isInfinite_any (g : Bool) (m e : Int) (w : World) :
    Calls Try.prog 31 #[.agg #[.bool g, .int .i64 m, .int .i64 e]] w fun e' w' => e' = .returned (.bool (infB m e)) ∧ Below w.heap.size w w' := by
  have hB : Below w.heap.size w (w.alloc (.cells #[.bool g, .int .i64 m, .int .i64 e] 25)) := (Below.refl _ _).alloc (Nat.le_refl _) _
  unfold infB
  by_cases h1 : m = 0
  · subst h1
    by_cases h2 : e = 151
    · subst h2
      go_enter Try.func31, Try.ntmps31
      go_wp2
      go_ret
      exact ⟨rfl, hB⟩
    · rw [decide_eq_false h2]
      have hb : (e == 151) = false := by simpa using h2
      go_enter Try.func31, Try.ntmps31
      go_wp2
      go_ret
      exact ⟨rfl, hB⟩
  · rw [decide_eq_false h1]
    have hb : (m == 0) = false := by simpa using h1
    go_enter Try.func31, Try.ntmps31
    go_wp2
    go_ret
    exact ⟨rfl, hB⟩
end Go.Proofs.Ytoiegaggekgmjaa
