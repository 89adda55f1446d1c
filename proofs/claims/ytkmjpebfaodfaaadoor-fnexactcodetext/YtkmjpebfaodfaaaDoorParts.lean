/-
  A nat of impl in memory: its cells, and what trim does to its count.
-/
import Derived.Test.YtkmjpebfaodfaaaDoorPkGood
import Derived.Deep.LoopGhost
import Derived.Deep.QuietTactic
import Derived.BigQuiet
import Derived.Laws.Rows
import Derived.Laws.Tables
import Derived.Deep.WholeRow
namespace Go.Proofs.YtkmjpebfaodfaaaDoor
open Go.RowKit
set_option linter.unusedVariables false

/-- The cells of a nat: the count, then the parts. -/
def natC (u : Int) (p : List Int) : Array Value := ((u :: p).map (Value.int .i64)).toArray

theorem natC_size (u : Int) (p : List Int) : (natC u p).size = p.length + 1 := by simp [natC]
theorem natC_0 (u : Int) (p : List Int) : (natC u p)[0]? = some (.int .i64 u) := by simp [natC]
theorem natC_s (u : Int) (p : List Int) (i : Nat) (h : i < p.length) : (natC u p)[1 + i]? = some (.int .i64 (p.getD i 0)) := by
  rw [Nat.add_comm]; simp [natC, List.getD, List.getElem?_eq_getElem h]
theorem natC_set0 (u v : Int) (p : List Int) : (natC u p).setIfInBounds 0 (.int .i64 v) = natC v p := by
  simp [natC]
theorem natC_setS (u v : Int) (p : List Int) (i : Nat) : (natC u p).setIfInBounds (1 + i) (.int .i64 v) = natC u (p.set i v) := by
  rw [Nat.add_comm]; simp [natC, List.map_set]
theorem natC_one (u : Int) (p : List Int) : (natC u p).all (·.oneCell') = true := by
  rw [Array.all_eq_true_iff_forall_mem]
  intro v hv
  simp [natC] at hv
  rcases hv with rfl | ⟨x, _, rfl⟩ <;> rfl

/-- The count without the noughts ahead. -/
def trimTo (p : List Int) : Nat → Nat
  | 0 => 0
  | k + 1 => if p.getD k 0 = 0 then trimTo p k else k + 1

theorem size_setCell (w : World) (a : Addr) (v : Value) : (w.setCell a v).heap.size = w.heap.size := by simp [World.setCell]
theorem grownBy_set {w wr : World} {b : Nat} (h : w.grownBy wr (some b)) (o : Nat) (v : Value) : w.grownBy (wr.setCell ⟨b, o, none⟩ v) (some b) :=
  ⟨h.os, h.tape, h.output, by simp [World.setCell]; exact h.size, fun k hk hne => by
    rw [heap_setCell_other _ _ _ _ (by intro e; exact hne (by rw [e])), h.block k hk hne]⟩
theorem grownBy_drewN {w wr : World} {b : Option Nat} (h : w.grownBy wr b) (n : Nat) : w.grownBy (wr.drewN n) b := ⟨h.os, h.tape, h.output, h.size, h.block⟩

end Go.Proofs.YtkmjpebfaodfaaaDoor
