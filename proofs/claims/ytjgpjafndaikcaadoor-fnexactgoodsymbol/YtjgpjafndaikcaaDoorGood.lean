/-
  What spec.l1Digits, spec.GoodNat and impl.GoodNat answer: for every text that can be read, whether it is a natural number's text; no memory is turned.
-/
import Derived.Test.YtjgpjafndaikcaaDoorRows
import Derived.Test.YtjgpjafndaikcaaDoorMath
import Derived.WalkKit
import Derived.WalkSpells
import Derived.WalkLawsBesides
namespace Go.Proofs.YtjgpjafndaikcaaDoor
open Go.RowKit
set_option linter.unusedVariables false

theorem ret_bool {a b : Bool} (h : a = b) : Ending.returned (.bool a) = .returned (.bool b) := by rw [h]

theorem int_one (n : Nat) : ((n : Int) == 1) = decide (n = 1) := by
  by_cases h : n = 1
  · subst h; rfl
  · rw [decide_eq_false h, beq_eq_false_iff_ne]; omega

theorem take_snoc (s : ByteArray) (k : Nat) (h : k < s.size) : s.data.toList.take (k + 1) = s.data.toList.take k ++ [s[k]] := by
  rw [List.take_succ_eq_append_getElem (by simpa using h)]; rfl

/-- A byte that is no digit: the text is no number's. -/
theorem canon_bad (s : ByteArray) (k : Nat) (h : k < s.size) (hb : ¬ (48 ≤ s[k].toNat ∧ s[k].toNat ≤ 57)) : canonB s.data.toList = false := by
  unfold canonB
  have : s.data.toList.all isDig = false := by
    rw [List.all_eq_false]
    refine ⟨s[k], ?_, by simpa [isDig] using hb⟩
    have : s.data.toList[k]'(by simpa using h) = s[k] := by simp; rfl
    rw [← this]; exact List.getElem_mem _
  rw [this]; rfl

theorem digs_step (s : ByteArray) (k : Nat) (h : k < s.size) (h0 : (s.data.toList.take k).all isDig = true) (h1 : 48 ≤ s[k].toNat) (h2 : s[k].toNat ≤ 57) : (s.data.toList.take (k + 1)).all isDig = true := by
  rw [take_snoc s k h, List.all_append, h0]; simp [isDig, h1, h2]

/-- Digits alone: what is left to ask. -/
theorem canon_of_all (s : ByteArray) (h : s.data.toList.all isDig = true) (hp : 0 < s.size) : canonB s.data.toList = (!(s[0] == 48) || decide (s.size = 1)) := by
  obtain ⟨⟨l⟩⟩ := s
  cases l with
  | nil => simp [ByteArray.size] at hp
  | cons c m =>
    have e : (ByteArray.mk ⟨c :: m⟩)[0] = c := rfl
    rw [e]
    simp only [canonB, h, Bool.true_and]
    congr 1
    cases m <;> simp [ByteArray.size]

theorem canon_empty (s : ByteArray) (h : s.size = 0) : canonB s.data.toList = false := by
  obtain ⟨⟨l⟩⟩ := s
  cases l with
  | nil => rfl
  | cons c m => simp [ByteArray.size] at h

end Go.Proofs.YtjgpjafndaikcaaDoor
