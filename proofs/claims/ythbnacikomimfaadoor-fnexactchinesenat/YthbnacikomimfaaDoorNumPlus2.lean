/-
  What plus, minus and over of impl's fractions answer: written by gen/mulnum.py.
-/
import Derived.Test.YthbnacikomimfaaDoorPkNumTimes
import Derived.Test.YthbnacikomimfaaDoorNumTimes2
import Derived.Test.YthbnacikomimfaaDoorTwoOne
import Derived.Test.YthbnacikomimfaaDoorSumTop
import Derived.Test.YthbnacikomimfaaDoorPkCutNum
namespace Go.Proofs.YthbnacikomimfaaDoor
open Go.RowKit
set_option linter.unusedVariables false

theorem okN_gcd {l : List UInt8} (h : okN l = true) : Nat.gcd (topN l) (botN l) = 1 := by
  rw [okN_eq] at h
  simp only [Bool.and_eq_true, Bool.or_eq_true, decide_eq_true_eq] at h
  rcases h.2 with h | h
  · rw [h, Nat.gcd_one_right]
  · exact h
theorem sg_sign (b : Bool) (x : Nat) : sg b x = (if b then (-1 : Int) else 1) * (x : Int) := by
  cases b <;> simp [sg]
/-- The top of a sum over the bottoms' common divisor. -/
def topC (g : Bool) (n m : Nat) (g' : Bool) (n' m' : Nat) : Int := topZ g n (m / Nat.gcd m m') g' n' (m' / Nat.gcd m m')
theorem plus_top {g : Bool} {n m : Nat} {g' : Bool} {n' m' : Nat} (hg : Nat.gcd n m = 1) (hg' : Nat.gcd n' m' = 1) (hm : 0 < m) (hm' : 0 < m') :
    decide (topZ g n m g' n' m' < 0) = decide (topC g n m g' n' m' < 0) ∧
    (topZ g n m g' n' m').natAbs / Nat.gcd (topZ g n m g' n' m').natAbs (m * m') = (topC g n m g' n' m').natAbs / Nat.gcd (topC g n m g' n' m').natAbs (Nat.gcd m m') ∧
    m * m' / Nat.gcd (topZ g n m g' n' m').natAbs (m * m') = Nat.gcd m m' / Nat.gcd (topC g n m g' n' m').natAbs (Nat.gcd m m') * (m / Nat.gcd m m') * (m' / Nat.gcd m m') := by
  obtain ⟨e1, e2, e3, e4⟩ := plus_gcd hg hg' hm hm' (if g then -1 else 1) (if g' then -1 else 1) (by cases g <;> simp) (by cases g' <;> simp) (topC g n m g' n' m') (by unfold topC topZ; rw [sg_sign, sg_sign])
  have hc : 0 < Nat.gcd m m' := Nat.gcd_pos_of_pos_right m hm'
  have hT : topZ g n m g' n' m' = (Nat.gcd m m' : Int) * topC g n m g' n' m' := by rw [← e1]; unfold topZ; rw [sg_sign, sg_sign]
  have hA : (topZ g n m g' n' m').natAbs = Nat.gcd m m' * (topC g n m g' n' m').natAbs := by rw [hT, Int.natAbs_mul, Int.natAbs_natCast]
  refine ⟨?_, ?_, ?_⟩
  · rw [hT]
    by_cases h : topC g n m g' n' m' < 0
    · rw [decide_eq_true h, decide_eq_true (Int.mul_neg_of_pos_of_neg (by omega) h)]
    · rw [decide_eq_false h, decide_eq_false (Int.not_lt.2 (Int.mul_nonneg (by omega) (by omega)))]
  · rw [hA, e2, e3]
  · rw [hA, e2, e4]

/-- What plus answers. -/
def PlusR (g : Bool) (n m : Nat) (g' : Bool) (n' m' : Nat) (e : Ending) : Prop := ∃ (i l : Nat) (r s : List Int), e = .returned (.agg (numC (decide (topZ g n m g' n' m' < 0)) i r l s)) ∧ Rep ((topZ g n m g' n' m').natAbs / Nat.gcd (topZ g n m g' n' m').natAbs (m * m')) i r ∧ Rep (m * m' / Nat.gcd (topZ g n m g' n' m').natAbs (m * m')) l s
def SumR (Z : Int) (v : Value) : Prop := ∃ (c : Nat) (t : List Int), v = .agg (wholeC (decide (Z < 0)) c t) ∧ Rep Z.natAbs c t ∧ c ≤ 202

end Go.Proofs.YthbnacikomimfaaDoor
