/-
  What times and turned of a fraction of impl answer.
-/
import Derived.Test.YteihephciiifbaaReadNums
import Derived.Test.YteihephciiifbaaHeldMid
import Derived.Test.YteihephciiifbaaTimes
import Derived.Test.YteihephciiifbaaMulMath
namespace Go.Proofs.Yteihephciiifbaa
open Go.RowKit
set_option linter.unusedVariables false

/-- The sign of a whole number. -/
def sgn (g : Bool) (k : Nat) : Int := if k = 0 then 0 else if g then -1 else 1

set_option maxHeartbeats 400000 in
theorem sign_any {k : Nat} {p : List Int} (g : Bool) (w : World) :
    Calls Try.prog 27 #[.agg (wholeC g k p)] w fun e w' => e = .returned (.int .i64 (sgn g k)) ∧ Below w.heap.size w w' := by
  have hz1 := zero_whole.1
  have A := WholeAt.new w g k p
  have hB : Below w.heap.size w (w.alloc (.cells (wholeC g k p) 32)) := (Below.refl _ _).alloc (Nat.le_refl _) _
  have c0 := A.neg
  have c1 := A.used
  by_cases h : k = 0
  · have h' : ((k : Int) == 0) = true := by simp [h]
    have HE : Hid (sgn g k = 0) := if_pos h
    clear h
    go_enter Try.func27, Try.ntmps27
    go_wp2
    go_ret
    exact ⟨by rw [HE.out]; rfl, hB⟩
  · have h' : ((k : Int) == 0) = false := by simp [h]
    have HE : Hid (sgn g k = if g then -1 else 1) := if_neg h
    clear h
    cases g with
    | true =>
      go_enter Try.func27, Try.ntmps27
      go_wp2
      go_ret
      exact ⟨by rw [HE.out]; rfl, hB⟩
    | false =>
      go_enter Try.func27, Try.ntmps27
      go_wp2
      go_ret
      exact ⟨by rw [HE.out]; rfl, hB⟩
end Go.Proofs.Yteihephciiifbaa
