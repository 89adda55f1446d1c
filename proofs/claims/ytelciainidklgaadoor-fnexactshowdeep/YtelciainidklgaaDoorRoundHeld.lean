/-
  Drawn regions within a round: operation by operation.
-/
import Derived.Test.YtelciainidklgaaDoorRangeAny
import Derived.Test.YtelciainidklgaaDoorBaseLate
import Derived.Test.YtelciainidklgaaDoorHeapMath
namespace Go.Proofs.YtelciainidklgaaDoor
open Go.RowKit BL
set_option linter.unusedVariables false

/-- Normal ends alone. -/
def Calm (Q : Exit → Act → World → Prop) : Exit → Act → World → Prop
  | .normal, a, w => Q .normal a w
  | _, _, _ => False
theorem Calm.imp {Q : Exit → Act → World → Prop} : ∀ (e : Exit) (a : Act) (w : World), Calm Q e a w → Q e a w := fun e a w h => by
  cases e <;> first | exact h | exact h.elim
theorem calm_put {Q : Exit → Act → World → Prop} : ∀ c a d v w, Calm Q (.panic c) (Act.put a d v) w → Calm Q (.panic c) a w := fun _ _ _ _ _ h => h
theorem Calm.normal {Q : Exit → Act → World → Prop} {a : Act} {w : World} (h : Q .normal a w) : Calm Q .normal a w := h
theorem held_round {ops : Array Oper} {Q : Exit → Act → World → Prop} {a : Act} {w : World} {id l n : Nat} (S : World → Prop) (hm : Tryd.prog.follows .mixedOrders = true) (hd : noDefer ops = true)
    (h : wpAnyH Tryd.prog .any ops (Calm Q) S ops.size (Array.replicate ops.size false) a w.drew) : (Code.region id ops true).wpIn (Fence.wide.inRound l) n Tryd.prog Q a w :=
  wpIn_mono (region_round hm hd (fun ⟨_, _, h⟩ => h) (wpAny_of_held _ _ _ _ h)) Calm.imp
/-- Outside of a round. -/
theorem held_wide {ops : Array Oper} {Q : Exit → Act → World → Prop} {a : Act} {w : World} {id n : Nat} (S : World → Prop) (hm : Tryd.prog.follows .mixedOrders = true)
    (h : wpAnyH Tryd.prog .any ops (NoPanic Q) S ops.size (Array.replicate ops.size false) a w.drew) : (Code.region id ops true).wpIn Fence.wide n Tryd.prog Q a w :=
  wpIn_wide.2 (held_begin S hm h)
/-- The one operation that may come up. -/
theorem held_step {ops : Array Oper} {Q : Exit → Act → World → Prop} {md : Region.Mode} {S : World → Prop} {o : Oper} {fuel : Nat} {listed : Array Bool} {a : Act} {w : World} (i : Nat) (hr : Region.ready md ops listed = [i]) (hi : ops[i]? = some o) (hw : Region.wanted o (yielded ops a.tmps) = true)
    (h : ∀ K : Act → World → Prop, Hid (∀ a w', S w' → wpAnyH Tryd.prog md ops Q S fuel (listed.setIfInBounds i true) a w' → K a w') → o.wp Tryd.prog a w K Q) : wpAnyH Tryd.prog md ops Q S (fuel + 1) listed a w := by
  refine wpAnyH_ready hr (by simp) (AllReadyH.cons hi (fun K hK => ?_) AllReadyH.nil)
  rw [if_pos hw]
  exact h K (fun a w' hS h => hK.out _ _ hS (fun _ => h))

/-- A function that holds a range over a function returns. -/
theorem leave_marks {fn : Func} {tmps : Array Value} {V : World} {D n : Nat} {v : Value} {R : Ending → World → Prop} (hK : V.heap[D]? = some (.deferred (some []))) (hres : (results fn tmps).run Tryd.prog (V.putObj D (.deferred none)) = .ok v (V.putObj D (.deferred none)))
    (hR : R (.returned v) (V.putObj D (.deferred none))) : LeavesInM Fence.wide n Tryd.prog fn tmps R [{ target := .collected D, args := #[] }] .returning V :=
  ⟨by simp, .inl ⟨_, _, rfl, run_takeDeferred hK, _, hres, hR⟩⟩
theorem row_put {V : World} {b D : Nat} {t : TypeId} {cs : Array Value} {o o' : Obj} (h : V.heap[b]? = some (.cells cs t (0, 0))) (hK : V.heap[D]? = some o) (ho : o.isCells = false) : (V.putObj D o').heap[b]? = some (.cells cs t (0, 0)) := by
  rw [World.putObj_heap_other (fun e => ?_)]
  · exact h
  · subst e
    rw [h] at hK; cases hK; cases ho
theorem below_put {V w : World} {D B : Nat} {o' : Obj} (h : Below B w V) (hD : B ≤ D) (hB : B ≤ V.heap.size) : Below B w (V.putObj D o') :=
  h.grown (grownBy_putObj' V D o') hB (fun k e => by cases e; exact hD)

/-- One cell of a row of records of one is written, as an operation. -/
theorem rec1_put {X : Type} {w : World} {b : Nat} {T : TypeId} {g : X → Value} {l : List X} (h : RecAt w b T (fun x => [g x]) l) (i : Nat) (x : X) : RecAt (w.setCell ⟨b, i, none⟩ (g x)) b T (fun x => [g x]) (l.set i x) := by
  have h1 := heap_setCell_same w b i _ _ (g x) h
  have e1 : ∀ l : List X, l.flatMap (fun x => [g x]) = l.map g := fun l => by
    induction l with
    | nil => rfl
    | cons a l ih => rw [List.flatMap_cons, ih, List.map_cons]; rfl
  have e2 : ((l.flatMap fun x => [g x]).toArray).setIfInBounds i (g x) = ((l.set i x).flatMap fun x => [g x]).toArray := by
    rw [e1, e1, List.map_set]; simp
  rw [e2] at h1
  exact h1
theorem rec1_wp {X : Type} [Inhabited X] {op : Oper} {a : Act} {w : World} {K : Act → World → Prop} {Q : Exit → Act → World → Prop} (T : TypeId) (x y : Operand) (ho : op.op = .store T x y) (hd : op.dst = none)
    (g : X → Value) (hone : ∀ x, (g x).oneCell' = true) (hs : (Tryd.prog.info? T).map (·.size) = some 1)
    (b i : Nat) (d : X) (hx : a.eval x = .pointer (some ⟨b, i, none⟩)) (hy : a.eval y = g d) (l : List X) (hD : RecAt w b T (fun x => [g x]) l) (hi : i < l.length)
    (h : ∀ w', RecAt w' b T (fun x => [g x]) (l.set i d) → w.grownBy w' (some b) → w'.heap.size = w.heap.size → K a w') : op.wp Tryd.prog a w K Q := by
  have hcell : w.cell? ⟨b, i, none⟩ = some (g (l.getD i default)) := by
    have := RecAt.cell (c := 1) hD (fun _ => rfl) i 0 hi (by decide)
    simpa using this
  unfold Oper.wp execOp
  simp only [ho, hx, hy, Instr.storeAt, Instr.sureAddr, Sem.run_bind, Sem.run_pure, Result.andThen_ok, run_storeVar_cell w b i T (g d) (by rw [hcell]; rfl) (frozen_of_row w b _ _ _ hD) hs (hone d)]
  have e : a.put op.dst undef = a := by rw [hd]; rfl
  show K (a.put op.dst undef) _
  rw [e]
  exact h _ (rec1_put hD i d) (grown_set w b i (g d)) (by simp)
/-- An append to what a box holds. -/
theorem boxR_append {W w1 : World} {n₀ B : Nat} {t e : TypeId} {size : Nat} {v v' : Value} {k m : Nat} {xs ys : List Value} {tmp : Obj} (hv : Boxed W B t v) (hte : t ≠ e) (hrow : W.ownsRow n₀ e size v k xs)
    (hown' : w1.ownsRow n₀ e size v' m ys) (hgrow : (W.alloc tmp).grownBy w1 v.ownBlock) :
    Boxed w1 B t v ∧ Boxed (w1.setCell ⟨B, 0, none⟩ v') B t v' ∧ (w1.setCell ⟨B, 0, none⟩ v').ownsRow n₀ e size v' m ys ∧ KeepsOthers W (w1.setCell ⟨B, 0, none⟩ v') ∧ W.heap.size ≤ (w1.setCell ⟨B, 0, none⟩ v').heap.size ∧ (∀ j, j < W.heap.size → j ≠ B → j < n₀ → (w1.setCell ⟨B, 0, none⟩ v').heap[j]? = W.heap[j]?) ∧ ((w1.setCell ⟨B, 0, none⟩ v').os = W.os ∧ (w1.setCell ⟨B, 0, none⟩ v').tape = W.tape ∧ (w1.setCell ⟨B, 0, none⟩ v').output = W.output) := by
  have hv1 : Boxed w1 B t v := (hv.alloc tmp).kept hgrow (hv.not_row hte hrow)
  have hg2 := grownBy_setCell' w1 B v'
  have hsz := hgrow.size
  rw [World.size_alloc] at hsz
  refine ⟨hv1, hv1.set v', hown'.kept hg2 (.inr (hv1.not_row hte hown').symm), ?_, by have := hg2.size; omega, fun j hj hB hn => ?_, hg2.os.trans hgrow.os, hg2.tape.trans hgrow.tape, hg2.output.trans hgrow.output⟩
  · refine ((KeepsOthers.alloc W tmp).trans (KeepsOthers.of_grownBy hgrow fun j o ej hj => ?_)).trans (KeepsOthers.setCell _ _ _)
    rcases (hrow.alloc tmp).2 with ⟨rfl, _⟩ | ⟨g, cap, cur, rfl, _, hgb, _⟩
    · simp [Value.ownBlock] at ej
    · obtain rfl : g = j := by simpa [Value.ownBlock] using ej
      rw [hgb] at hj; cases hj; rfl
  · rw [hg2.block j (by omega) (by intro e; injection e with e; exact hB e), hgrow.block j (by rw [World.size_alloc]; omega) ?_, Below.heap_alloc _ _ _ hj]
    intro e
    have := (hrow.lt j e.symm).1
    omega
theorem keepsR_below {W W' : World} (h : Below W.heap.size W W') : KeepsOthers W W' := ⟨h.size, fun k o hk _ => (h.block k (Array.getElem?_eq_some_iff.1 hk).1).trans hk⟩
end Go.Proofs.YtelciainidklgaaDoor
