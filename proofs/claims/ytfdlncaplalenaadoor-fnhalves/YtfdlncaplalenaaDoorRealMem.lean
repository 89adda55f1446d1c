/-
  Reals of chapter 9 in memory, and what isFinite, isInfinite, rank, realAt of impl answer.
-/
import Derived.Test.YtfdlncaplalenaaDoorL1In
import Derived.Test.YtfdlncaplalenaaDoorRealMath
import Derived.Test.YtfdlncaplalenaaDoorBaseHeld
import Derived.Deep.WholeRow
import Derived.Laws.Rows
import Derived.Test.YtfdlncaplalenaaDoorBaseRow
namespace Go.Proofs.YtfdlncaplalenaaDoor
open Go.RowKit
set_option linter.unusedVariables false

theorem real_one (g : Bool) (m e : Int) : (#[.bool g, .int .i64 m, .int .i64 e] : Array Value).all (·.oneCell') = true := by
  rw [Array.all_eq_true_iff_forall_mem]
  intro v hv
  simp at hv
  rcases hv with rfl | rfl | rfl <;> rfl
def realC (g : Bool) (m e : Int) : Array Value := #[.bool g, .int .i64 m, .int .i64 e]
def finB (m e : Int) : Bool := if e = -150 then decide (0 ≤ m) && decide (m < 9007199254740992) else decide (-150 < e) && decide (e ≤ 150) && decide (4503599627370496 ≤ m) && decide (m < 9007199254740992)
def infB (m e : Int) : Bool := decide (m = 0) && decide (e = 151)
theorem finB_iff (m e : Int) : finB m e = true ↔ ∃ n : Nat, m = (n : Int) ∧ FinR n e := by
  unfold finB FinR
  constructor
  · intro h
    refine ⟨m.toNat, ?_, ?_⟩
    · split at h <;> simp at h <;> omega
    · split at h <;> simp at h <;> omega
  · rintro ⟨n, rfl, h⟩
    split <;> simp <;> omega

end Go.Proofs.YtfdlncaplalenaaDoor
