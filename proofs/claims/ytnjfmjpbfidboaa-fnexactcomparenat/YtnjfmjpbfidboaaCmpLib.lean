/-
  What cmp.Compare at int answers: the order of its two numbers.
-/
import Derived.Test.YtnjfmjpbfidboaaCmp
namespace Go.Proofs.Ytnjfmjpbfidboaa
open Go.RowKit
set_option linter.unusedVariables false

theorem isNaN_any (x : Int) (w : World) :
    Calls Try.prog 18 #[.int .i64 x] w fun e w' => e = .returned (.bool false) ∧ w' = w := by
  go_enter Try.func18, Try.ntmps18
  go_wp2
  go_ret
  exact ⟨rfl, rfl⟩

theorem cmpCompare_any (x y : Int) (w : World) :
    Calls Try.prog 15 #[.int .i64 x, .int .i64 y] w fun e w' => e = .returned (.int .i64 (cmpI x y)) ∧ w' = w := by
  rcases Int.lt_trichotomy x y with h | h | h
  · have hc : Hid (cmpI x y = -1) := cmpI_lt h
    go_enter Try.func15, Try.ntmps15
    go_wp2_with (go_at_call 18; refine (isNaN_any _ _).mono ?_; rintro e w' ⟨rfl, rfl⟩)
    go_ret
    exact ⟨ret_int hc.out.symm, rfl⟩
  · subst h
    have hc : Hid (cmpI x x = 0) := cmpI_eq rfl
    go_enter Try.func15, Try.ntmps15
    go_wp2_with (go_at_call 18; refine (isNaN_any _ _).mono ?_; rintro e w' ⟨rfl, rfl⟩)
    go_ret
    exact ⟨ret_int hc.out.symm, rfl⟩
  · have hc : Hid (cmpI x y = 1) := cmpI_gt h
    go_enter Try.func15, Try.ntmps15
    go_wp2_with (go_at_call 18; refine (isNaN_any _ _).mono ?_; rintro e w' ⟨rfl, rfl⟩)
    go_ret
    exact ⟨ret_int hc.out.symm, rfl⟩

end Go.Proofs.Ytnjfmjpbfidboaa
