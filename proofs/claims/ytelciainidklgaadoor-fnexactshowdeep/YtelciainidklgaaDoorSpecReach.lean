/-
  What spec.ReachIn answers.
-/
import Derived.Test.YtelciainidklgaaDoorSpecKeep
import Derived.Test.YtelciainidklgaaDoorBaseLate
namespace Go.Proofs.YtelciainidklgaaDoor
open Go.RowKit BL
set_option linter.unusedVariables false

def reachOut (m : Hp) : List Int := if hpOk m then idxI (reachM m 0) m.cells.length else []
theorem oneX_cell (v : Int) : ∀ u ∈ [Value.int .i64 v], u.oneCell' = true := fun u hu => by simp at hu; subst hu; rfl
theorem own_formX {w : World} {B n s : Nat} {T : TypeId} {v : Value} {xs : List Value} (h : w.ownsRow B T s v n xs) : ∃ o cap, v = .slice o n cap := by
  rcases h.2 with ⟨h1, h0⟩ | ⟨g, cap, cur, h1, _⟩
  · exact ⟨none, 0, by rw [h1, h0]⟩
  · exact ⟨_, _, h1⟩

theorem own_baseX {w : World} {B B' n s : Nat} {T : TypeId} {v : Value} {xs : List Value} (h : w.ownsRow B T s v n xs) (hB : B' ≤ B) : w.ownsRow B' T s v n xs :=
  ⟨h.1, h.2.imp id fun ⟨g, cap, cur, h1, h2, h3⟩ => ⟨g, cap, cur, h1, Nat.le_trans hB h2, h3⟩⟩

end Go.Proofs.YtelciainidklgaaDoor
