/-
  Rows of Cell: what the laws' own helpers over them answer.
-/
import Derived.Test.YtgolfbjfopoeeaaDoorBaseHeld
import Derived.Test.YtgolfbjfopoeeaaDoorRecs
namespace Go.Proofs.YtgolfbjfopoeeaaDoor
open Go.RowKit
set_option linter.unusedVariables false
/-- The cells of one. -/
def cellL (x : Bool × Int × Int × Int) : List Value := [.bool x.1, .int .i64 x.2.1, .int .i64 x.2.2.1, .int .i64 x.2.2.2]
theorem cellL_len (x : Bool × Int × Int × Int) : (cellL x).length = 4 := rfl
theorem cellL_one (x : Bool × Int × Int × Int) : ∀ u ∈ cellL x, u.oneCell' = true := by
  intro u hu
  simp [cellL] at hu
  rcases hu with rfl | rfl | rfl | rfl <;> rfl
end Go.Proofs.YtgolfbjfopoeeaaDoor
