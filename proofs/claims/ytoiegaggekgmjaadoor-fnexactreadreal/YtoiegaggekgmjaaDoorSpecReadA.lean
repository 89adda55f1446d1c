/-
  What spec.lbPlain and spec.lbTimes answer.
-/
import Derived.Test.YtoiegaggekgmjaaDoorReadMath
import Derived.Test.YtoiegaggekgmjaaDoorPkSpecNear
import Derived.Test.YtoiegaggekgmjaaDoorPkSpecParts
namespace Go.Proofs.YtoiegaggekgmjaaDoor
open Go.RowKit
set_option linter.unusedVariables false

theorem plain_bad (s : ByteArray) (k : Nat) (h : k < s.size) (hb : s[k].toNat < 48 ∨ 57 < s[k].toNat) : plainB s.data.toList = false := by
  have : s.data.toList.all isDig = false := by
    rw [List.all_eq_false]
    refine ⟨s.data.toList[k]'(by simpa using h), List.getElem_mem _, ?_⟩
    have : s.data.toList[k]'(by simpa using h) = s[k] := rfl
    rw [this]
    unfold isDig
    simp only [Bool.and_eq_true, decide_eq_true_eq]
    omega
  unfold plainB; rw [this, Bool.false_and]

set_option maxHeartbeats 1000000 in
theorem lbPlain_any (s : ByteArray) (w : World) (hs : s.size ≤ maxLen) :
    Calls Tryd.prog 16 #[.string s] w fun e w' => e = .returned (.bool (plainB s.data.toList)) ∧ w' = w := by
  unfold maxLen at hs
  go_enter Tryd.func16, Tryd.ntmps16
  go_wp2
  go_loop [3] (fun i => ∃ k : Nat, k ≤ s.size ∧ i = .int .i64 k ∧ (s.data.toList.take k).all isDig = true) (fun i => s.size - (intOf i).toNat)
  case atStart => exact ⟨0, Nat.zero_le _, rfl, rfl⟩
  case round =>
    obtain ⟨k, hk, rfl, hd⟩ := hrel
    have HD : Hid ((s.data.toList.take k).all isDig = true) := hd
    clear hd
    by_cases hlt : k < s.size
    · go_wp2
      · have hb : (s[k].toNat : Int) < 48 ∨ 57 < (s[k].toNat : Int) := by assumption
        have hc := plain_bad s k hlt (by omega)
        go_ret
        exact ⟨ret_bool hc.symm, rfl⟩
      · have hb : 48 ≤ (s[k].toNat : Int) ∧ (s[k].toNat : Int) ≤ 57 := by assumption
        go_round
        case rel => exact ⟨k + 1, by omega, by go_num, digs_step s k hlt HD.out (by omega) (by omega)⟩
        case measure => simp [intOf]; omega
      · have hb : (s[k].toNat : Int) < 48 := by assumption
        have hc := plain_bad s k hlt (by omega)
        go_ret
        exact ⟨ret_bool hc.symm, rfl⟩
    · have hall : Hid (plainB s.data.toList = (decide ((1 : Int) ≤ (s.size : Int)) && decide ((s.size : Int) ≤ 40))) := by
        have := HD.out
        rw [List.take_of_length_le (by simp; omega)] at this
        unfold Hid plainB
        rw [this, Bool.true_and]
        have h1 : s.data.toList.length = s.size := by simp
        rw [h1]
        congr 1
        · exact decide_eq_decide.2 (by omega)
        · exact decide_eq_decide.2 (by omega)
      go_wp2_with fail
      refine (l1In_any _ _ _ _).mono ?_
      rintro e w' ⟨rfl, rfl⟩
      go_wp2
      go_ret
      exact ⟨ret_bool hall.out.symm, rfl⟩

set_option maxHeartbeats 1000000 in
set_option maxRecDepth 100000 in
theorem lbTimes_any {a b : ByteArray} {N D : Nat} (n : Int) (w : World) (ha : Tx a N) (hb : Tx b D) (hsa : a.size ≤ 5000) (hsb : b.size ≤ 5000) (h0 : -5000 ≤ n) (h1 : n ≤ 5000) :
    Calls Tryd.prog 18 #[.string a, .string b, .int .i64 n] w fun e w' => (∃ c d : ByteArray, e = .returned (.tuple #[.string c, .string d]) ∧ Tx c (N * 10 ^ n.toNat) ∧ Tx d (D * 10 ^ (-n).toNat)) ∧ Below w.heap.size w w' := by
  by_cases hn : 0 ≤ n
  · obtain ⟨k, rfl⟩ : ∃ k : Nat, n = (k : Int) := ⟨n.toNat, by omega⟩
    have HD : Hid (Tx b (D * 10 ^ (-(k : Int)).toNat)) := by
      unfold Hid
      rw [show (-(k : Int)).toNat = 0 by omega, Nat.pow_zero, Nat.mul_one]; exact hb
    have HA := hideT' ha
    clear ha hb
    go_enter Tryd.func18, Tryd.ntmps18
    go_wp2_with fail
    refine (laShift_any a k w hsa (by omega) HA.out.1).mono ?_
    rintro e w1 ⟨c, rfl, hc1, hc2, hW⟩
    have HC : Hid (Tx c (N * 10 ^ (k : Int).toNat)) := ⟨hc1, by rw [hc2, HA.out.2]; simp⟩
    clear hc1 hc2
    go_wp2
    refine bodyPost_ret (results_tmp2 rfl _ _ _) rfl ?_
    exact ⟨⟨c, b, rfl, HC.out, HD.out⟩, hW⟩
  · obtain ⟨k, rfl⟩ : ∃ k : Nat, n = -(k : Int) := ⟨(-n).toNat, by omega⟩
    have hwr : IntKind.i64.wrap (- -(k : Int)) = (k : Int) := by rw [IntKind.wrap_i64]; omega
    have HD : Hid (Tx a (N * 10 ^ (-(k : Int)).toNat)) := by
      unfold Hid
      rw [show (-(k : Int)).toNat = 0 by omega, Nat.pow_zero, Nat.mul_one]; exact ha
    have HA := hideT' hb
    clear ha hb
    go_enter Tryd.func18, Tryd.ntmps18
    go_wp2_with fail
    refine (laShift_any b k w hsb (by omega) HA.out.1).mono ?_
    rintro e w1 ⟨c, rfl, hc1, hc2, hW⟩
    have HC : Hid (Tx c (D * 10 ^ (- -(k : Int)).toNat)) := ⟨hc1, by rw [hc2, HA.out.2]; simp⟩
    clear hc1 hc2
    go_wp2
    refine bodyPost_ret (results_tmp2 rfl _ _ _) rfl ?_
    exact ⟨⟨a, c, rfl, HD.out, HC.out⟩, hW⟩
end Go.Proofs.YtoiegaggekgmjaaDoor
