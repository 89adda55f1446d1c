/-
  What spec.l1Num answers for every int, those below 0 too.
-/
import Derived.Test.YtelciainidklgaaDoorNumAll
import Derived.Test.YtelciainidklgaaDoorBaseHeld
namespace Go.Proofs.YtelciainidklgaaDoor
open Go.RowKit
set_option linter.unusedVariables false

theorem itoa_neg {n : Int} (h : n < 0) : Lib.itoa n = 45 :: Lib.decDigits n.natAbs := by unfold Lib.itoa; rw [if_pos h]
theorem itoa_len {n : Int} (h0 : -9223372036854775808 ≤ n) (h1 : n ≤ 9223372036854775807) : (Lib.itoa n).length ≤ 20 := by
  by_cases h : n < 0
  · rw [itoa_neg h]
    have hd := dec_canon n.natAbs
    have := (canon_len_le hd.1 19 (by omega)).2 (by rw [hd.2]; omega)
    simp only [List.length_cons]; omega
  · obtain ⟨k, rfl⟩ := Int.eq_ofNat_of_zero_le (show 0 ≤ n by omega)
    rw [itoa_nat]
    have hd := dec_canon k
    have := (canon_len_le hd.1 19 (by omega)).2 (by rw [hd.2]; omega)
    omega
theorem numB_min : numB (-9223372036854775808) = ⟨#[45, 57, 50, 50, 51, 51, 55, 50, 48, 51, 54, 56, 53, 52, 55, 55, 53, 56, 48, 56]⟩ := by
  unfold numB
  rw [itoa_neg (by omega)]
  have hd := dec_canon 9223372036854775808
  have : Lib.decDigits 9223372036854775808 = [57, 50, 50, 51, 51, 55, 50, 48, 51, 54, 56, 53, 52, 55, 55, 53, 56, 48, 56] := canon_inj hd.1 (by decide) (by rw [hd.2]; decide)
  show (⟨(45 :: Lib.decDigits 9223372036854775808).toArray⟩ : ByteArray) = _
  rw [this]

set_option maxHeartbeats 400000 in
set_option maxRecDepth 100000 in
theorem l1NumInt_any (n : Int) (h0 : -9223372036854775808 ≤ n) (h1 : n ≤ 9223372036854775807) (w : World) :
    Calls Tryd.prog 59 #[.int .i64 n] w fun e w' => e = .returned (.string (numB n)) ∧ Below w.heap.size w w' := by
  by_cases hneg : n < 0
  · by_cases hmin : n = -9223372036854775808
    · subst hmin
      have HN := hideT' numB_min
      go_enter Tryd.func59, Tryd.ntmps59
      go_wp2
      go_ret
      exact ⟨by rw [HN.out]; rfl, Below.refl _ _⟩
    · obtain ⟨k, hk⟩ : ∃ k : Nat, -n = (k : Int) := ⟨(-n).toNat, by omega⟩
      have hmb : (n == -9223372036854775808) = false := by simp [hmin]
      have HC : Hid (∀ w, Calls Tryd.prog 59 #[.int .i64 (-n)] w fun e w' => e = .returned (.string (numB (k : Int))) ∧ Below w.heap.size w w') := fun w => by rw [hk]; exact l1NumN_any k (by omega) w
      have HE : Hid (numB n = (⟨#[45]⟩ : ByteArray) ++ numB (k : Int)) := by
        unfold Hid numB
        rw [itoa_neg hneg, itoa_nat, show n.natAbs = k by omega]
        apply ByteArray.ext
        apply Array.ext'
        simp
      have hz := numB_nat_size k (by omega)
      have hsz : ¬ 9223372036854775807 < (⟨#[45]⟩ : ByteArray).size + (numB (k : Int)).size := by
        show ¬ _ < 1 + (numB (k : Int)).size; omega
      have hwn : IntKind.i64.wrap (-n) = -n := by rw [IntKind.wrap_i64]; omega
      clear hz hk
      go_enter Tryd.func59, Tryd.ntmps59
      go_wp2_with fail
      refine (HC.out _).mono ?_
      rintro e w1 ⟨rfl, hB⟩
      go_wp2
      go_ret
      exact ⟨by rw [HE.out]; rfl, hB⟩
  · obtain ⟨k, rfl⟩ := Int.eq_ofNat_of_zero_le (show 0 ≤ n by omega)
    exact l1NumN_any k (by omega) w
end Go.Proofs.YtelciainidklgaaDoor
