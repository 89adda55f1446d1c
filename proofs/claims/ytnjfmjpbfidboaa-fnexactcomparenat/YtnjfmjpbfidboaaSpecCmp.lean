/-
  What spec.CompareNat answers.
-/
import Derived.Test.YtnjfmjpbfidboaaCmp
namespace Go.Proofs.Ytnjfmjpbfidboaa
open Go.RowKit
set_option linter.unusedVariables false

/-- What CompareNat should answer. -/
def cmpAns (a b : ByteArray) : Ending := if (goodB a.data.toList && goodB b.data.toList) = true then .returned (.tuple #[.int .i64 (cmpI (dval a.data.toList) (dval b.data.toList)), .bool true]) else .returned (.tuple #[.int .i64 0, .bool false])

theorem cmpAns_yes {a b : ByteArray} (h : (goodB a.data.toList && goodB b.data.toList) = true) : Ending.returned (.tuple #[.int .i64 (cmpI (dval a.data.toList) (dval b.data.toList)), .bool true]) = cmpAns a b := by
  unfold cmpAns; rw [if_pos h]
theorem cmpAns_no {a b : ByteArray} (h : (goodB a.data.toList && goodB b.data.toList) = false) : Ending.returned (.tuple #[.int .i64 0, .bool false]) = cmpAns a b := by
  unfold cmpAns; rw [if_neg (by rw [h]; simp)]

theorem specCompare_any (a b : ByteArray) (w : World) (hsa : a.size ≤ maxLen) (hsb : b.size ≤ maxLen) :
    Calls Try.prog 7 #[.string a, .string b] w fun e w' => e = cmpAns a b ∧ w' = w := by
  cases hg : (goodB a.data.toList && goodB b.data.toList) with
  | true =>
    have HG : Hid ((goodB a.data.toList && goodB b.data.toList) = true) := hg
    simp only [Bool.and_eq_true] at hg
    obtain ⟨ga, gb⟩ := hg
    have ca := good_canon ga
    have cb := good_canon gb
    clear ga gb
    have HA : Hid (canonB a.data.toList = true) := ca
    have HB : Hid (canonB b.data.toList = true) := cb
    clear ca cb
    go_enter Try.func7, Try.ntmps7
    go_wp2_with fail
    refine (l1Both_any a b _ hsa hsb).mono ?_
    rintro e w' ⟨rfl, rfl⟩
    rw [HG.out]
    go_wp2_with fail
    refine (l1Compare_any a b _ hsa hsb HA.out HB.out).mono ?_
    rintro e w' ⟨rfl, rfl⟩
    go_wp2
    go_ret2
    exact ⟨cmpAns_yes HG.out, rfl⟩
  | false =>
    have HG : Hid ((goodB a.data.toList && goodB b.data.toList) = false) := hg
    clear hg
    go_enter Try.func7, Try.ntmps7
    go_wp2_with fail
    refine (l1Both_any a b _ hsa hsb).mono ?_
    rintro e w' ⟨rfl, rfl⟩
    rw [HG.out]
    go_wp2
    go_ret2
    exact ⟨cmpAns_no HG.out, rfl⟩

end Go.Proofs.Ytnjfmjpbfidboaa
