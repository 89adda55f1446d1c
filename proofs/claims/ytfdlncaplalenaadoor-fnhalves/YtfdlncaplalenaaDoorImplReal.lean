/-
  What GoodReal, rank, realAt and NextReal of impl answer.
-/
import Derived.Test.YtfdlncaplalenaaDoorRealMem
import Derived.Test.YtfdlncaplalenaaDoorRecs
namespace Go.Proofs.YtfdlncaplalenaaDoor
open Go.RowKit
set_option linter.unusedVariables false

/-- The rank of a good real, below 0 with its sign. -/
def rankA (m e : Int) : Int := if infB m e = true then 1360087087465889792 else (e + 150) * 4503599627370496 + m
def rankZ (g : Bool) (m e : Int) : Int := if g then -(rankA m e) else rankA m e

/-- What NextReal answers. -/
def nextV (g : Bool) (m e : Int) : Value :=
  if finB m e = true ∧ rankZ g m e + 1 ≠ 1360087087465889792 then .tuple #[.agg #[.bool (decide (rankZ g m e + 1 < 0)), .int .i64 (manOf (rankZ g m e + 1).natAbs : Nat), .int .i64 (expOf (rankZ g m e + 1).natAbs)], .bool true]
  else .tuple #[.agg #[.bool false, .int .i64 0, .int .i64 0], .bool false]
theorem rankZ_bd {g : Bool} {m e : Int} (h : finB m e = true) : -1360087087465889792 < rankZ g m e ∧ rankZ g m e < 1360087087465889792 := by
  obtain ⟨n, rfl, hf⟩ := (finB_iff m e).1 h
  have hi : infB (n : Int) e = false := by
    unfold infB FinR at *
    simp
    omega
  unfold rankZ rankA FinR at *
  rw [hi]
  cases g <;> simp <;> omega

end Go.Proofs.YtfdlncaplalenaaDoor
