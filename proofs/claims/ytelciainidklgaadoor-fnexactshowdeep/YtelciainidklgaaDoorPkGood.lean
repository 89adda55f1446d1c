/-
  The texts Good, Cmp, Str, CmpLib, SpecCmp, one behind the other.
-/
import Derived.Test.YtelciainidklgaaDoorRows
import Derived.Test.YtelciainidklgaaDoorPkMath
import Derived.WalkKit
import Derived.WalkSpells
import Derived.WalkLawsBesides
import Derived.WideShapes

/-
  What spec.l1Digits, spec.GoodNat and impl.GoodNat answer: for every text that can be read, whether it is a natural number's text; no memory is turned.
-/
namespace Go.Proofs.YtelciainidklgaaDoor
open Go.RowKit
set_option linter.unusedVariables false

theorem ret_bool {a b : Bool} (h : a = b) : Ending.returned (.bool a) = .returned (.bool b) := by rw [h]

theorem int_one (n : Nat) : ((n : Int) == 1) = decide (n = 1) := by
  by_cases h : n = 1
  · subst h; rfl
  · rw [decide_eq_false h, beq_eq_false_iff_ne]; omega

theorem take_snoc (s : ByteArray) (k : Nat) (h : k < s.size) : s.data.toList.take (k + 1) = s.data.toList.take k ++ [s[k]] := by
  rw [List.take_succ_eq_append_getElem (by simpa using h)]; rfl

/-- A byte that is no digit: the text is no number's. -/
theorem canon_bad (s : ByteArray) (k : Nat) (h : k < s.size) (hb : ¬ (48 ≤ s[k].toNat ∧ s[k].toNat ≤ 57)) : canonB s.data.toList = false := by
  unfold canonB
  have : s.data.toList.all isDig = false := by
    rw [List.all_eq_false]
    refine ⟨s[k], ?_, by simpa [isDig] using hb⟩
    have : s.data.toList[k]'(by simpa using h) = s[k] := by simp; rfl
    rw [← this]; exact List.getElem_mem _
  rw [this]; rfl

theorem digs_step (s : ByteArray) (k : Nat) (h : k < s.size) (h0 : (s.data.toList.take k).all isDig = true) (h1 : 48 ≤ s[k].toNat) (h2 : s[k].toNat ≤ 57) : (s.data.toList.take (k + 1)).all isDig = true := by
  rw [take_snoc s k h, List.all_append, h0]; simp [isDig, h1, h2]

/-- Digits alone: what is left to ask. -/
theorem canon_of_all (s : ByteArray) (h : s.data.toList.all isDig = true) (hp : 0 < s.size) : canonB s.data.toList = (!(s[0] == 48) || decide (s.size = 1)) := by
  obtain ⟨⟨l⟩⟩ := s
  cases l with
  | nil => simp [ByteArray.size] at hp
  | cons c m =>
    have e : (ByteArray.mk ⟨c :: m⟩)[0] = c := rfl
    rw [e]
    simp only [canonB, h, Bool.true_and]
    congr 1
    cases m <;> simp [ByteArray.size]

theorem canon_empty (s : ByteArray) (h : s.size = 0) : canonB s.data.toList = false := by
  obtain ⟨⟨l⟩⟩ := s
  cases l with
  | nil => rfl
  | cons c m => simp [ByteArray.size] at h

end Go.Proofs.YtelciainidklgaaDoor

/-
  What spec.l1Both and spec.l1Compare answer.
-/
namespace Go.Proofs.YtelciainidklgaaDoor
open Go.RowKit
set_option linter.unusedVariables false

theorem ret_int {a b : Int} (h : a = b) : Ending.returned (.int .i64 a) = .returned (.int .i64 b) := by rw [h]

/-- The order of two numbers. -/
def cmpI (a b : Int) : Int := if a < b then -1 else if b < a then 1 else 0

theorem cmpI_lt {a b : Int} (h : a < b) : cmpI a b = -1 := by unfold cmpI; rw [if_pos h]
theorem cmpI_gt {a b : Int} (h : b < a) : cmpI a b = 1 := by unfold cmpI; rw [if_neg (by omega), if_pos h]
theorem cmpI_eq {a b : Int} (h : a = b) : cmpI a b = 0 := by unfold cmpI; rw [if_neg (by omega), if_neg (by omega)]
theorem cmpI_bd (a b : Int) : -1 ≤ cmpI a b ∧ cmpI a b ≤ 1 := by unfold cmpI; split <;> (try split) <;> omega

/-! ### Texts in order -/
theorem bytesLess_dval : ∀ (l m : List UInt8), l.all isDig = true → m.all isDig = true → l.length = m.length → Op.bytesLess l m = decide (dval l < dval m)
  | [], [], _, _, _ => by simp [Op.bytesLess, dval]
  | [], _ :: _, _, _, h => by simp at h
  | _ :: _, [], _, _, h => by simp at h
  | a :: x, b :: y, ha, hb, h => by
    simp only [List.all_cons, Bool.and_eq_true] at ha hb
    simp only [List.length_cons, Nat.add_right_cancel_iff] at h
    have ih := bytesLess_dval x y ha.2 hb.2 h
    have h1 := dval_lt x ha.2
    have h2 := dval_lt y hb.2
    have d1 := isDig_bd ha.1
    have d2 := isDig_bd hb.1
    rw [h] at h1
    simp only [Op.bytesLess, ih, dval_cons, h]
    have e1 : (a < b) ↔ a.toNat < b.toNat := UInt8.lt_iff_toNat_lt
    have e2 : (a = b) ↔ a.toNat = b.toNat := UInt8.toNat_inj.symm
    unfold dv
    generalize 10 ^ y.length = T at *
    rw [Bool.eq_iff_iff]
    simp only [Bool.or_eq_true, Bool.and_eq_true, decide_eq_true_eq, beq_iff_eq, e1, e2]
    rcases Nat.lt_trichotomy a.toNat b.toNat with hl | he | hg
    · have : (a.toNat - 48 + 1) * T ≤ (b.toNat - 48) * T := Nat.mul_le_mul_right _ (by omega)
      rw [Nat.add_mul] at this
      constructor
      · intro _; omega
      · intro _; exact .inl hl
    · rw [he]; constructor
      · rintro (h | h)
        · omega
        · omega
      · intro h; exact .inr ⟨rfl, by omega⟩
    · have : (b.toNat - 48 + 1) * T ≤ (a.toNat - 48) * T := Nat.mul_le_mul_right _ (by omega)
      rw [Nat.add_mul] at this
      constructor
      · rintro (h | h) <;> omega
      · intro _; omega

theorem good_canon {l : List UInt8} (h : goodB l = true) : canonB l = true := by
  simp only [goodB, Bool.and_eq_true] at h; exact h.2
theorem good_len {l : List UInt8} (h : goodB l = true) : l.length ≤ 600 := by
  simp only [goodB, Bool.and_eq_true, decide_eq_true_eq] at h; exact h.1

end Go.Proofs.YtelciainidklgaaDoor

/-
  Texts held against each other: plain facts.
-/
namespace Go.Proofs.YtelciainidklgaaDoor
open Go.RowKit
set_option linter.unusedVariables false

theorem str_ne {s : ByteArray} {l : List UInt8} (h : s.data.toList ≠ l) : (s.toList == l) = false := by
  rw [ByteArray.toList_eq]; exact beq_eq_false_iff_ne.2 h
theorem str_eq {s : ByteArray} {l : List UInt8} (h : s.data.toList = l) : (s.toList == l) = true := by
  rw [ByteArray.toList_eq, h]; exact beq_self_eq_true l

theorem canon_one {l : List UInt8} (hl : canonB l = true) : dval l = 1 ↔ l = [49] := by
  constructor
  · intro h; exact canon_inj hl (by decide) (by rw [h]; decide)
  · rintro rfl; decide

theorem one_canon : canonB ((⟨#[49]⟩ : ByteArray).data.toList) = true ∧ dval ((⟨#[49]⟩ : ByteArray).data.toList) = 1 := by decide

end Go.Proofs.YtelciainidklgaaDoor

/-
  What cmp.Compare at int answers: the order of its two numbers.
-/
namespace Go.Proofs.YtelciainidklgaaDoor
open Go.RowKit
set_option linter.unusedVariables false

end Go.Proofs.YtelciainidklgaaDoor

/-
  What spec.CompareNat answers.
-/
namespace Go.Proofs.YtelciainidklgaaDoor
open Go.RowKit
set_option linter.unusedVariables false

/-- What CompareNat should answer. -/
def cmpAns (a b : ByteArray) : Ending := if (goodB a.data.toList && goodB b.data.toList) = true then .returned (.tuple #[.int .i64 (cmpI (dval a.data.toList) (dval b.data.toList)), .bool true]) else .returned (.tuple #[.int .i64 0, .bool false])

theorem cmpAns_yes {a b : ByteArray} (h : (goodB a.data.toList && goodB b.data.toList) = true) : Ending.returned (.tuple #[.int .i64 (cmpI (dval a.data.toList) (dval b.data.toList)), .bool true]) = cmpAns a b := by
  unfold cmpAns; rw [if_pos h]
theorem cmpAns_no {a b : ByteArray} (h : (goodB a.data.toList && goodB b.data.toList) = false) : Ending.returned (.tuple #[.int .i64 0, .bool false]) = cmpAns a b := by
  unfold cmpAns; rw [if_neg (by rw [h]; simp)]

end Go.Proofs.YtelciainidklgaaDoor
