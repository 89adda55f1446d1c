/-
  What redexesIn and RedexesIn of the program answer.
-/
import Derived.Test.YtgolfbjfopoeeaaDoorWalkFrom
import Derived.Test.YtgolfbjfopoeeaaDoorRoundHeld
import Derived.Test.YtgolfbjfopoeeaaDoorSpecParts
namespace Go.Proofs.YtgolfbjfopoeeaaDoor
open Go.RowKit Go.Shelf BL
set_option linter.unusedVariables false
attribute [local go_sem] Oper.semAt_some

theorem own_keep {w w' : World} {B n s : Nat} {T : TypeId} {v : Value} {xs : List Value} (h : w.ownsRow B T s v n xs) (hk : ∀ g, v.ownBlock = some g → w'.heap[g]? = w.heap[g]?) : w'.ownsRow B T s v n xs :=
  ⟨h.1, h.2.imp id fun ⟨g, cap, cur, h1, h2, h3, h4⟩ => ⟨g, cap, cur, h1, h2, by rw [hk g (by rw [h1]; rfl)]; exact h3, h4⟩⟩
/-- The redexes among places that a walk came by. -/
def redsOf (pre : List (Spot × Nat)) : List Int := (pre.filter fun x => x.1.t.isRed).map fun x => (x.1.at_ : Int)
theorem redsOf_app (pre : List (Spot × Nat)) (x : Spot × Nat) : redsOf (pre ++ [x]) = redsOf pre ++ (if x.1.t.isRed then [(x.1.at_ : Int)] else []) := by
  unfold redsOf
  rw [List.filter_append, List.map_append]
  cases h : x.1.t.isRed <;> simp [List.filter, h]
theorem redsOf_all {pre : List (Spot × Nat)} {t : Lm} (h : pre.map Prod.fst = t.walk 0 (-1) 0) : redsOf pre = natsI t.reds := by
  unfold redsOf Lm.reds natsI
  rw [← h, List.filter_map, List.map_map, List.map_map]
  rfl
theorem redsOf_len (pre : List (Spot × Nat)) : (redsOf pre).length ≤ pre.length := by
  unfold redsOf
  rw [List.length_map]
  exact List.length_filter_le _ _
/-- What the loop over the walk knows: the slice in its own variable. -/
def RedI (w : World) (pre : List (Spot × Nat)) (V : Nat → Prop) (W : World) : Prop :=
  ∃ v, (∀ z, V z ↔ (z = w.heap.size ∨ v.ownBlock = some z)) ∧ RowAt W w.heap.size 87 #[v] ∧ OwnR W (w.heap.size + 1) v 3 intL 1 (redsOf pre) ∧ Below w.heap.size w W
theorem RedI.lt {w : World} {pre : List (Spot × Nat)} {V : Nat → Prop} {W : World} (h : RedI w pre V W) : ∀ z, V z → z < W.heap.size := by
  obtain ⟨v, hV, hR, hO, hB⟩ := h
  intro z hz
  rcases (hV z).1 hz with rfl | hz
  · exact hR.lt
  · exact (hO.lt z hz).2
theorem RedI.step {w : World} {pre : List (Spot × Nat)} {V : Nat → Prop} {A B : World} {row : Option Nat} (h : RedI w pre V A) (hg : A.grownBy B row) (hr : ∀ r, row = some r → ¬ V r ∧ w.heap.size ≤ r) : RedI w pre V B := by
  obtain ⟨v, hV, hR, hO, hB⟩ := h
  refine ⟨v, hV, hR.grown hg (fun e => (hr _ e.symm).1 ((hV _).2 (.inl rfl))), own_keep hO (fun g hgo => hg.block g (hO.lt g hgo).2 (fun e => (hr _ e.symm).1 ((hV _).2 (.inr hgo)))), hB.grown hg hB.size (fun k e => (hr k e).2)⟩
end Go.Proofs.YtgolfbjfopoeeaaDoor
