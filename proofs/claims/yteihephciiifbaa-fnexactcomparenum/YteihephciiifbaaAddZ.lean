/-
  The top and the bottom of a sum of fractions: plain facts.
-/
import Derived.Test.YteihephciiifbaaCutNum
import Derived.Test.YteihephciiifbaaFlt
namespace Go.Proofs.Yteihephciiifbaa
set_option linter.unusedVariables false

/-- The top of the sum. -/
def topZ (g : Bool) (n m : Nat) (g' : Bool) (n' m' : Nat) : Int := sg g n * (m' : Int) + sg g' n' * (m : Int)
theorem sg_mulN (g : Bool) (n m : Nat) : sg g (n * m) = sg g n * (m : Int) := by
  unfold sg; cases g <;> simp [Int.neg_mul]
theorem topZ_eq (g : Bool) (n m : Nat) (g' : Bool) (n' m' : Nat) : sg g (n * m') + sg g' (n' * m) = topZ g n m g' n' m' := by
  unfold topZ; rw [sg_mulN, sg_mulN]
theorem topZ_abs (g : Bool) (n m : Nat) (g' : Bool) (n' m' : Nat) : (topZ g n m g' n' m').natAbs ≤ n * m' + n' * m := by
  rw [← topZ_eq]
  have h1 := sg_abs g (n * m')
  have h2 := sg_abs g' (n' * m)
  omega

/-- What is to be told of a sum, or of a difference where less says so. -/
def addZ (less : Bool) (a b : ByteArray) : Int := topZ (negN a.data.toList) (topN a.data.toList) (botN a.data.toList) (negN b.data.toList != less) (topN b.data.toList) (botN b.data.toList)
def addBot (a b : ByteArray) : Nat := botN a.data.toList * botN b.data.toList
theorem okN_bot' {l : List UInt8} (h : okN l = true) : botN l ≠ 0 := by
  unfold okN at h
  unfold botN
  cases hb : brokenN l with
  | false => simp
  | true =>
    rw [hb] at h
    simp only [Bool.and_eq_true, Bool.not_true, Bool.false_or, decide_eq_true_eq] at h
    rw [if_pos rfl]
    exact h.2.2.1
theorem okN_neg' {l : List UInt8} (h : okN l = true) (hn : negN l = true) : topN l ≠ 0 := by
  unfold okN at h
  unfold topN
  rw [hn] at h
  simp only [Bool.and_eq_true, Bool.true_and, Bool.not_eq_true', decide_eq_false_iff_not] at h
  exact h.1.2
theorem sg_neg (h : Bool) (N : Nat) : (h && decide (N ≠ 0)) = decide (sg h N < 0) := by
  unfold sg
  by_cases hN : N = 0
  · subst hN; cases h <;> rfl
  · rw [decide_eq_true hN, Bool.and_true]
    cases h with
    | true => simp <;> omega
    | false => simp <;> omega
theorem sg_turn (h : Bool) (N : Nat) : sg (h && decide (N ≠ 0)) N = sg h N := by
  unfold sg
  by_cases hN : N = 0
  · subst hN; cases h <;> rfl
  · rw [decide_eq_true hN, Bool.and_true]

end Go.Proofs.Yteihephciiifbaa
