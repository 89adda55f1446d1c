/-
  What math.Frexp answers: any float, and an exponent within bounds.
-/
import Derived.Test.YtfdlncaplalenaaDoorRows
import Derived.Test.YtfdlncaplalenaaDoorBaseHeld
import Derived.WalkKit
import Derived.Below
import Derived.Laws.Externs
import Derived.Laws.FloatArith
namespace Go.Proofs.YtfdlncaplalenaaDoor
open Go.RowKit
set_option linter.unusedVariables false

theorem drawn_below {w w' : World} (h : w' = w ∨ w' = w.drew) {B : Nat} {a : World} (hB : Below B a w) : Below B a w' := by
  rcases h with rfl | rfl
  · exact hB
  · exact hB.drew
theorem drawn_cell {w w' : World} (h : w' = w ∨ w' = w.drew) (a : Addr) : w'.cell? a = w.cell? a := by
  rcases h with rfl | rfl <;> rfl
theorem drawn_heap {w w' : World} (h : w' = w ∨ w' = w.drew) : w'.heap = w.heap := by
  rcases h with rfl | rfl <;> rfl

theorem and_2047 (x : Int) : 0 ≤ bits .and .u64 x 2047 ∧ bits .and .u64 x 2047 ≤ 2047 := by
  have h1 : ((BitVec.ofInt 64 x) &&& (BitVec.ofInt 64 2047)).toNat ≤ 2047 := by
    rw [BitVec.toNat_and]
    exact Nat.le_trans Nat.and_le_right (by decide)
  obtain ⟨y, hy⟩ : ∃ y : Nat, ((BitVec.ofInt 64 x) &&& (BitVec.ofInt 64 2047)).toNat = y := ⟨_, rfl⟩
  have h2 : bits .and .u64 x 2047 = IntKind.u64.wrap (y : Int) := by rw [← hy]; rfl
  rw [hy] at h1
  rw [h2, IntKind.wrap_u64]
  omega

end Go.Proofs.YtfdlncaplalenaaDoor
