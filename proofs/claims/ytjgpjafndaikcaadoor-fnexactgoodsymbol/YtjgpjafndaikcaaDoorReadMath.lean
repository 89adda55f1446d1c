/-
  What ReadNum should read: plain facts.
-/
import Derived.Test.YtjgpjafndaikcaaDoorCutNum
import Derived.Test.YtjgpjafndaikcaaDoorRadix
namespace Go.Proofs.YtjgpjafndaikcaaDoor
set_option linter.unusedVariables false

/-- The radix of a sign's letter, 0 where it is none. -/
def letR (c : UInt8) : Nat := if c = 120 then 16 else if c = 111 then 8 else if c = 98 then 2 else if c = 100 then 10 else 0
/-- The radix, 0 where its sign is none, and what stands behind the sign. -/
def radN : List UInt8 → Nat × List UInt8
  | a :: c :: t => if a = 35 then (letR c, t) else (10, a :: c :: t)
  | l => (10, l)
/-- Whether it is below 0, and what stands behind the sign. -/
def sigN : List UInt8 → Bool × List UInt8
  | a :: t => if a = 45 then (true, t) else if a = 43 then (false, t) else (false, a :: t)
  | [] => (false, [])
def rdRad (l : List UInt8) : Nat := (radN l).1
def rdNeg (l : List UInt8) : Bool := (sigN (radN l).2).1
def rdTop (l : List UInt8) : List UInt8 := (cut47 (sigN (radN l).2).2).1
def rdBot (l : List UInt8) : List UInt8 := if (cut47 (sigN (radN l).2).2).2.2 then (cut47 (sigN (radN l).2).2).2.1 else [49]
/-- Digits of the radix, 1 to 600 of them. -/
def rdDig (b : Nat) (l : List UInt8) : Bool := (decide (0 < l.length) && decide (l.length ≤ 600)) && rdigs b l
def rdOkN (l : List UInt8) : Bool := (decide (rdRad l ≠ 0) && (rdDig (rdRad l) (rdTop l) && rdDig (rdRad l) (rdBot l))) && decide (rval (rdRad l) (rdBot l) ≠ 0)

theorem letR_cases (c : UInt8) : letR c = 16 ∨ letR c = 8 ∨ letR c = 2 ∨ letR c = 10 ∨ letR c = 0 := by
  unfold letR; split <;> (try split) <;> (try split) <;> (try split) <;> simp
theorem radN_short {l : List UInt8} (h : l.length ≤ 1) : radN l = (10, l) := by
  match l, h with
  | [], _ => rfl
  | [a], _ => rfl
theorem rdRad_cases (l : List UInt8) : rdRad l = 16 ∨ rdRad l = 8 ∨ rdRad l = 2 ∨ rdRad l = 10 ∨ rdRad l = 0 := by
  unfold rdRad radN
  split
  · split
    · exact letR_cases _
    · simp
  · simp
theorem cut47_lens : ∀ (l : List UInt8), (cut47 l).1.length ≤ l.length ∧ (cut47 l).2.1.length ≤ l.length := cut_size
end Go.Proofs.YtjgpjafndaikcaaDoor
