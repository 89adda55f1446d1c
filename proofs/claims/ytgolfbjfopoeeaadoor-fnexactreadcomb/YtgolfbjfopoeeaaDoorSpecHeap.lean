/-
  What spec.GoodHeap answers.
-/
import Derived.Test.YtgolfbjfopoeeaaDoorHeapLaw
import Derived.Test.YtgolfbjfopoeeaaDoorL1In
namespace Go.Proofs.YtgolfbjfopoeeaaDoor
open Go.RowKit
set_option linter.unusedVariables false

/-- A cell that is good at its place. -/
def clOk (i : Nat) (c : Cl) : Bool := if c.1 then decide (c.2.2.1 = 0) && decide (c.2.2.2 = 0) else decide (c.2.1 = 0) && ((decide (0 ≤ c.2.2.1) && decide (c.2.2.1 ≤ (i : Int) - 1)) && (decide (0 ≤ c.2.2.2) && decide (c.2.2.2 ≤ (i : Int) - 1)))
def clsOk : Nat → List Cl → Bool
  | _, [] => true
  | k, c :: l => clOk k c && clsOk (k + 1) l
def rootOk (n : Nat) (r : Int) : Bool := decide (0 ≤ r) && decide (r ≤ (n : Int) - 1)
/-- A good heap. -/
def hpOk (h : Hp) : Bool := decide (h.cells.length ≤ 200) && (decide (h.roots.length ≤ 60) && ((decide (0 ≤ h.old) && decide (h.old ≤ (h.cells.length : Int))) && (clsOk 0 h.cells && h.roots.all (rootOk h.cells.length))))
theorem clsOk_drop {cs : List Cl} {k : Nat} (hk : k < cs.length) (h : clsOk 0 cs = clsOk k (cs.drop k)) : clsOk 0 cs = (clOk k (cs.getD k default) && clsOk (k + 1) (cs.drop (k + 1))) := by
  have : cs.getD k default = cs[k] := by simp [List.getD, List.getElem?_eq_getElem hk]
  rw [h, this, List.drop_eq_getElem_cons hk]; rfl
theorem rootsOk_drop {n : Nat} {rs : List Int} {k : Nat} (hk : k < rs.length) (h : rs.all (rootOk n) = (rs.drop k).all (rootOk n)) : rs.all (rootOk n) = (rootOk n (rs.getD k default) && (rs.drop (k + 1)).all (rootOk n)) := by
  have : rs.getD k default = rs[k] := by simp [List.getD, List.getElem?_eq_getElem hk]
  rw [h, this, List.drop_eq_getElem_cons hk, List.all_cons]

end Go.Proofs.YtgolfbjfopoeeaaDoor
