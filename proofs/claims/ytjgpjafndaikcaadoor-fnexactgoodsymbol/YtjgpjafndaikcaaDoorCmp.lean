/-
  What spec.l1Both and spec.l1Compare answer.
-/
import Derived.Test.YtjgpjafndaikcaaDoorGood
namespace Go.Proofs.YtjgpjafndaikcaaDoor
open Go.RowKit
set_option linter.unusedVariables false

theorem ret_int {a b : Int} (h : a = b) : Ending.returned (.int .i64 a) = .returned (.int .i64 b) := by rw [h]

/-- The order of two numbers. -/
def cmpI (a b : Int) : Int := if a < b then -1 else if b < a then 1 else 0

theorem cmpI_lt {a b : Int} (h : a < b) : cmpI a b = -1 := by unfold cmpI; rw [if_pos h]
theorem cmpI_gt {a b : Int} (h : b < a) : cmpI a b = 1 := by unfold cmpI; rw [if_neg (by omega), if_pos h]
theorem cmpI_eq {a b : Int} (h : a = b) : cmpI a b = 0 := by unfold cmpI; rw [if_neg (by omega), if_neg (by omega)]
theorem cmpI_bd (a b : Int) : -1 ≤ cmpI a b ∧ cmpI a b ≤ 1 := by unfold cmpI; split <;> (try split) <;> omega

/-! ### Texts in order -/
theorem bytesLess_dval : ∀ (l m : List UInt8), l.all isDig = true → m.all isDig = true → l.length = m.length → Op.bytesLess l m = decide (dval l < dval m)
  | [], [], _, _, _ => by simp [Op.bytesLess, dval]
  | [], _ :: _, _, _, h => by simp at h
  | _ :: _, [], _, _, h => by simp at h
  | a :: x, b :: y, ha, hb, h => by
    simp only [List.all_cons, Bool.and_eq_true] at ha hb
    simp only [List.length_cons, Nat.add_right_cancel_iff] at h
    have ih := bytesLess_dval x y ha.2 hb.2 h
    have h1 := dval_lt x ha.2
    have h2 := dval_lt y hb.2
    have d1 := isDig_bd ha.1
    have d2 := isDig_bd hb.1
    rw [h] at h1
    simp only [Op.bytesLess, ih, dval_cons, h]
    have e1 : (a < b) ↔ a.toNat < b.toNat := UInt8.lt_iff_toNat_lt
    have e2 : (a = b) ↔ a.toNat = b.toNat := UInt8.toNat_inj.symm
    unfold dv
    generalize 10 ^ y.length = T at *
    rw [Bool.eq_iff_iff]
    simp only [Bool.or_eq_true, Bool.and_eq_true, decide_eq_true_eq, beq_iff_eq, e1, e2]
    rcases Nat.lt_trichotomy a.toNat b.toNat with hl | he | hg
    · have : (a.toNat - 48 + 1) * T ≤ (b.toNat - 48) * T := Nat.mul_le_mul_right _ (by omega)
      rw [Nat.add_mul] at this
      constructor
      · intro _; omega
      · intro _; exact .inl hl
    · rw [he]; constructor
      · rintro (h | h)
        · omega
        · omega
      · intro h; exact .inr ⟨rfl, by omega⟩
    · have : (b.toNat - 48 + 1) * T ≤ (a.toNat - 48) * T := Nat.mul_le_mul_right _ (by omega)
      rw [Nat.add_mul] at this
      constructor
      · rintro (h | h) <;> omega
      · intro _; omega

/-- l1Compare on two numbers' texts: the order of the numbers. -/
theorem l1Compare_any (a b : ByteArray) (w : World) (hsa : a.size ≤ maxLen) (hsb : b.size ≤ maxLen) (ha : canonB a.data.toList = true) (hb : canonB b.data.toList = true) :
    Calls Tryd.prog 54 #[.string a, .string b] w fun e w' => e = .returned (.int .i64 (cmpI (dval a.data.toList) (dval b.data.toList))) ∧ w' = w := by
  unfold maxLen at hsa hsb
  have la : a.data.toList.length = a.size := by simp
  have lb : b.data.toList.length = b.size := by simp
  rcases Nat.lt_trichotomy a.size b.size with hl | he | hg
  · have hv := canon_len_lt ha hb (by omega)
    have hc : Hid (cmpI (dval a.data.toList) (dval b.data.toList) = -1) := cmpI_lt (by omega)
    clear la lb hv ha hb
    have h1 : (a.size : Int) < (b.size : Int) := by omega
    go_enter Tryd.func54, Tryd.ntmps54
    go_wp2
    go_ret
    exact ⟨ret_int hc.out.symm, rfl⟩
  · have hB := bytesLess_dval a.data.toList b.data.toList (canon_all ha) (canon_all hb) (by omega)
    have hn : ((a.size : Int) == (b.size : Int)) = true := by rw [beq_iff_eq]; omega
    have hne : ((a.size : Int) != (b.size : Int)) = false := by simp; omega
    rcases Nat.lt_trichotomy (dval a.data.toList) (dval b.data.toList) with h | h | h
    · have hc : Hid (cmpI (dval a.data.toList) (dval b.data.toList) = -1) := cmpI_lt (by omega)
      have hb1 : Op.bytesLess a.toList b.toList = true := by rw [ByteArray.toList_eq, ByteArray.toList_eq, hB]; simpa using h
      clear la lb hB ha hb h he
      go_enter Tryd.func54, Tryd.ntmps54
      go_wp2
      go_ret
      exact ⟨ret_int hc.out.symm, rfl⟩
    · have hc : Hid (cmpI (dval a.data.toList) (dval b.data.toList) = 0) := cmpI_eq (by omega)
      have hb1 : Op.bytesLess a.toList b.toList = false := by rw [ByteArray.toList_eq, ByteArray.toList_eq, hB]; simp; omega
      have hb2 : (a.toList == b.toList) = true := by rw [ByteArray.toList_eq, ByteArray.toList_eq, canon_inj ha hb h]; simp
      clear la lb hB ha hb h he
      go_enter Tryd.func54, Tryd.ntmps54
      go_wp2
      go_ret
      exact ⟨ret_int hc.out.symm, rfl⟩
    · have hc : Hid (cmpI (dval a.data.toList) (dval b.data.toList) = 1) := cmpI_gt (by omega)
      have hb1 : Op.bytesLess a.toList b.toList = false := by rw [ByteArray.toList_eq, ByteArray.toList_eq, hB]; simp; omega
      have hb2 : (a.toList == b.toList) = false := by
        rw [ByteArray.toList_eq, ByteArray.toList_eq, beq_eq_false_iff_ne]; intro e; rw [e] at h; omega
      clear la lb hB ha hb h he
      go_enter Tryd.func54, Tryd.ntmps54
      go_wp2
      go_ret
      exact ⟨ret_int hc.out.symm, rfl⟩
  · have hv := canon_len_lt hb ha (by omega)
    have hc : Hid (cmpI (dval a.data.toList) (dval b.data.toList) = 1) := cmpI_gt (by omega)
    clear la lb hv ha hb
    have h1 : (b.size : Int) < (a.size : Int) := by omega
    go_enter Tryd.func54, Tryd.ntmps54
    go_wp2
    go_ret
    exact ⟨ret_int hc.out.symm, rfl⟩

theorem good_canon {l : List UInt8} (h : goodB l = true) : canonB l = true := by
  simp only [goodB, Bool.and_eq_true] at h; exact h.2
theorem good_len {l : List UInt8} (h : goodB l = true) : l.length ≤ 600 := by
  simp only [goodB, Bool.and_eq_true, decide_eq_true_eq] at h; exact h.1

end Go.Proofs.YtjgpjafndaikcaaDoor
