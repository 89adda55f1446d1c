/-
  The walk through a tree, as an iterator with memory of its own.
-/
import Derived.Test.YtgolfbjfopoeeaaDoorTreeTop
import Derived.Test.YtgolfbjfopoeeaaDoorRangeOwn
import Derived.Test.YtgolfbjfopoeeaaDoorFloat
import Derived.Test.YtgolfbjfopoeeaaDoorBaseLate
import Derived.RangeFuncBound
import Derived.Shelf.Abstract
import Derived.Shelf.RegionOpen
import Derived.WalkKit
import Derived.OwnWalkIn
import Derived.TacticsInMore
import Derived.LoopNIn
import Derived.LoopIn
namespace Go.Proofs.YtgolfbjfopoeeaaDoor
open Go.RowKit Go.Shelf BL
set_option linter.unusedVariables false
attribute [local go_sem] Oper.semAt_some

theorem TrIn.turn.row_same {w w' : World} {b : Nat} {T : TypeId} {cs : Array Value} {row : Option Nat} (h : RowAt w b T cs) (hg : w.grownBy w' row) (hr : ∀ r, row = some r → ∃ o : Obj, w.heap[r]? = some o ∧ o.isCells = false) : RowAt w' b T cs := by
  unfold RowAt
  rw [hg.block b h.lt (fun e => by
    obtain ⟨o, ho, hc⟩ := hr b e.symm
    rw [h] at ho
    cases ho
    cases hc)]
  exact h
theorem TrIn.turn {w w' : World} {P : Nat → Prop} {row : Option Nat} (hg : w.grownBy w' row) (hr : ∀ r, row = some r → ∃ o : Obj, w.heap[r]? = some o ∧ o.isCells = false) : ∀ {t : Lm} {b : Nat}, TrIn w P t b → TrIn w' P t b
  | .var n, b, h => by
    obtain ⟨hp, u, o, c, h⟩ := h
    exact ⟨hp, u, o, c, TrIn.turn.row_same h hg hr⟩
  | .lam t, b, h => by
    obtain ⟨hp, u, g, c, b1, h, hg', hc, h1⟩ := h
    exact ⟨hp, u, g, c, b1, TrIn.turn.row_same h hg hr, ⟨Nat.lt_of_lt_of_le hg'.1 hg.size, hg'.2⟩, cell_kept hc hg hr, TrIn.turn hg hr h1⟩
  | .app s t, b, h => by
    obtain ⟨hp, u, g, c, b1, b2, h, hg', hc, hc2, h1, h2⟩ := h
    exact ⟨hp, u, g, c, b1, b2, TrIn.turn.row_same h hg hr, ⟨Nat.lt_of_lt_of_le hg'.1 hg.size, hg'.2⟩, cell_kept hc hg hr, cell_kept hc2 hg hr, TrIn.turn hg hr h1, TrIn.turn hg hr h2⟩
/-- What the walk gives. -/
def encS (x : Spot × Nat) : Array Value := #[.agg #[.int .i64 (x.1.at_ : Int), .int .i64 x.1.up, .int .i64 (x.1.lam : Int)], .pointer (some ⟨x.2, 0, none⟩)]
/-- How many lambdas a node puts around its parts. -/
def Lm.lams : Lm → Nat
  | .lam _ => 1
  | _ => 0
theorem zero_spot : (∀ w, (zeroValue 112).run Tryd.prog w = .ok (.agg #[.int .i64 0, .int .i64 0, .int .i64 0]) w) ∧ (Tryd.prog.info? 112).map (·.size) = some 3 := zero_of_info (by kernel_rfl)

/-- The parts of a tree, as the cells say. -/
def Lm.kids : Lm → List Lm
  | .var _ => []
  | .lam t => [t]
  | .app s t => [s, t]
theorem TrIn.parts {w : World} {P : Nat → Prop} {t : Lm} {b : Nat} (h : TrIn w P t b) : ∃ o c, w.cell? ⟨b, 3, none⟩ = some (.slice o t.kids.length c) ∧ ∀ i s, t.kids[i]? = some s → ∃ g b1, o = some ⟨g, 0, none⟩ ∧ g < w.heap.size ∧ P g ∧ w.cell? ⟨g, i, none⟩ = some (.pointer (some ⟨b1, 0, none⟩)) ∧ TrIn w P s b1 := by
  cases t with
  | var n =>
    obtain ⟨_, u, o, c, h⟩ := h
    exact ⟨o, c, by rw [cell_of_row _ _ _ _ _ _ h]; rfl, fun i s hi => by simp [Lm.kids] at hi⟩
  | lam t =>
    obtain ⟨_, u, g, c, b1, h, hg, hc, h1⟩ := h
    refine ⟨_, c, by rw [cell_of_row _ _ _ _ _ _ h]; rfl, fun i s hi => ?_⟩
    match i, hi with
    | 0, hi => cases hi; exact ⟨g, b1, rfl, hg.1, hg.2, hc, h1⟩
    | i + 1, hi => simp [Lm.kids] at hi
  | app s t =>
    obtain ⟨_, u, g, c, b1, b2, h, hg, hc, hc2, h1, h2⟩ := h
    refine ⟨_, c, by rw [cell_of_row _ _ _ _ _ _ h]; rfl, fun i s hi => ?_⟩
    match i, hi with
    | 0, hi => cases hi; exact ⟨g, b1, rfl, hg.1, hg.2, hc, h1⟩
    | 1, hi => cases hi; exact ⟨g, b2, rfl, hg.1, hg.2, hc2, h2⟩
    | i + 2, hi => simp [Lm.kids] at hi

set_option maxHeartbeats 1000000 in
theorem lambdasOf_any (t : Lm) (b : Nat) (P : Nat → Prop) (w : World) (h : TrIn w P t b) :
    Calls Tryd.prog 93 #[.pointer (some ⟨b, 0, none⟩)] w fun e w' => e = .returned (.int .i64 (t.lams : Int)) ∧ w' = w := by
  obtain ⟨o, c, hc, _⟩ := h.parts
  clear h
  cases t with
  | var n =>
    simp only [Lm.kids, List.length_nil] at hc
    go_enter Tryd.func93, Tryd.ntmps93
    go_wp2
    go_ret
    exact ⟨rfl, rfl⟩
  | lam t =>
    simp only [Lm.kids, List.length_cons, List.length_nil] at hc
    go_enter Tryd.func93, Tryd.ntmps93
    go_wp2
    go_ret
    exact ⟨rfl, rfl⟩
  | app s t =>
    simp only [Lm.kids, List.length_cons, List.length_nil] at hc
    go_enter Tryd.func93, Tryd.ntmps93
    go_wp2
    go_ret
    exact ⟨rfl, rfl⟩
end Go.Proofs.YtgolfbjfopoeeaaDoor
