/-
  Reals of chapter 9 in memory, and what isFinite, isInfinite, rank, realAt of impl answer.
-/
import Derived.Test.YtoiegaggekgmjaaDoorL1In
import Derived.Test.YtoiegaggekgmjaaDoorRealMath
import Derived.Test.YtoiegaggekgmjaaDoorBaseHeld
import Derived.Deep.WholeRow
import Derived.Laws.Rows
import Derived.Test.YtoiegaggekgmjaaDoorBaseRow
namespace Go.Proofs.YtoiegaggekgmjaaDoor
open Go.RowKit
set_option linter.unusedVariables false

theorem zero_real : (∀ w, (zeroValue 23).run Tryd.prog w = .ok (.agg #[.bool false, .int .i64 0, .int .i64 0]) w) ∧ (Tryd.prog.info? 23).map (·.size) = some 3 := zero_of_info (by kernel_rfl)
theorem real_info (g : Bool) (m e : Int) : (Tryd.prog.info? 23).map (·.size) = some (#[.bool g, .int .i64 m, .int .i64 e] : Array Value).size := zero_real.2
theorem res_real {fn : Func} {x : Tmp} (h : fn.results = #[.cell x 23]) (tmps : Array Value) (w : World) (b : Nat) (g : Bool) (m e : Int)
    (hp : tmps.getD x undef = .pointer (some ⟨b, 0, none⟩)) (hN : RowAt w b 23 #[.bool g, .int .i64 m, .int .i64 e]) : (results fn tmps).run Tryd.prog w = .ok (.agg #[.bool g, .int .i64 m, .int .i64 e]) w :=
  results_cell_row h tmps w b 23 #[.bool g, .int .i64 m, .int .i64 e] (0, 0) _ hp hN Tryd.underlying23 rfl (real_info g m e)
theorem res_real_tmp {fn : Func} {x u : Tmp} (h : fn.results = #[.cell x 23, .tmp u]) (tmps : Array Value) (w : World) (b : Nat) (g : Bool) (m e : Int) (v : Value)
    (hp : tmps.getD x undef = .pointer (some ⟨b, 0, none⟩)) (hv : tmps.getD u undef = v) (hN : RowAt w b 23 #[.bool g, .int .i64 m, .int .i64 e]) : (results fn tmps).run Tryd.prog w = .ok (.tuple #[.agg #[.bool g, .int .i64 m, .int .i64 e], v]) w := by
  rw [results_cell_tmp h, hp, hv]
  simp only [asAddr, Sem.run_pure, Result.andThen, run_loadVar_row w b 23 23 #[.bool g, .int .i64 m, .int .i64 e] (0, 0) _ hN Tryd.underlying23 rfl (real_info g m e)]
theorem real_one (g : Bool) (m e : Int) : (#[.bool g, .int .i64 m, .int .i64 e] : Array Value).all (·.oneCell') = true := by
  rw [Array.all_eq_true_iff_forall_mem]
  intro v hv
  simp at hv
  rcases hv with rfl | rfl | rfl <;> rfl
def realC (g : Bool) (m e : Int) : Array Value := #[.bool g, .int .i64 m, .int .i64 e]
def finB (m e : Int) : Bool := if e = -150 then decide (0 ≤ m) && decide (m < 9007199254740992) else decide (-150 < e) && decide (e ≤ 150) && decide (4503599627370496 ≤ m) && decide (m < 9007199254740992)
def infB (m e : Int) : Bool := decide (m = 0) && decide (e = 151)
theorem finB_iff (m e : Int) : finB m e = true ↔ ∃ n : Nat, m = (n : Int) ∧ FinR n e := by
  unfold finB FinR
  constructor
  · intro h
    refine ⟨m.toNat, ?_, ?_⟩
    · split at h <;> simp at h <;> omega
    · split at h <;> simp at h <;> omega
  · rintro ⟨n, rfl, h⟩
    split <;> simp <;> omega

end Go.Proofs.YtoiegaggekgmjaaDoor
