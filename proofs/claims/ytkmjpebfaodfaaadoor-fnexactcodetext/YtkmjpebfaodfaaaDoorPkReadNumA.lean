/-
  The texts ReadNumA, ReadTerms, ReadNum, ReadNums, one behind the other.
-/
import Derived.Test.YtkmjpebfaodfaaaDoorPkCutNum
import Derived.Test.YtkmjpebfaodfaaaDoorPkFraction

/-
  What readNum of impl is made of.
-/
namespace Go.Proofs.YtkmjpebfaodfaaaDoor
open Go.RowKit
set_option linter.unusedVariables false

/-- What readNum should hand back. -/
def ReadN (l : List UInt8) (e : Ending) : Prop := ∃ (g : Bool) (k j : Nat) (p q : List Int), e = .returned (.tuple #[.agg (numC g k p j q), .bool (okN l)]) ∧ p.length = 204 ∧ q.length = 204 ∧ (okN l = true → g = negN l ∧ Rep (topN l) k p ∧ Rep (botN l) j q ∧ k ≤ 100 ∧ j ≤ 100 ∧ j ≠ 0)

theorem run_mv {o : Oper} {a : Act} {w : World} (x : Operand) (ho : o.op = .move x) (v : Value) (hx : a.eval x = v) : (execOp a.eval o).run Tryd.prog w = .ok (.value v) w := by
  unfold execOp
  simp only [ho, hx]
  rfl
/-- One of two operations that may come up, a call. -/
theorem ready_call {ops : Array Oper} {Q : Exit → Act → World → Prop} {md : Region.Mode} {S : World → Prop} {o : Oper} {fuel : Nat} {listed : Array Bool} {a : Act} {w : World} {rs : List Nat} (i : Nat) (d : Option Tmp) (hi : ops[i]? = some o) (hw : Region.wanted o (yielded ops a.tmps) = true) (hd : o.dst = d) (f : FuncId) (args : Array Value)
    (he : (execOp a.eval o).run Tryd.prog w = .ok (.enter f args) w) (R : Ending → World → Prop) (hc : Calls Tryd.prog f args w R)
    (h : ∀ e w', R e w' → ∃ v, e = .returned v ∧ S w' ∧ wpAnyH Tryd.prog md ops Q S fuel (listed.setIfInBounds i true) (a.put d v) w') (hs : AllReadyH Tryd.prog md ops Q S fuel listed a w rs) : AllReadyH Tryd.prog md ops Q S fuel listed a w (i :: rs) := by
  subst hd
  refine AllReadyH.cons hi (fun K hK => ?_) hs
  rw [if_pos hw]
  unfold Oper.wp
  rw [he]
  simp only [Oper.upon]
  refine hc.mono ?_
  intro e w' hR
  obtain ⟨v, rfl, hS, hn⟩ := h e w' hR
  exact hK.out _ _ hS (fun _ => hn)
/-- One of the operations that may come up gives a value and changes the world. -/
theorem ready_val {ops : Array Oper} {Q : Exit → Act → World → Prop} {md : Region.Mode} {S : World → Prop} {o : Oper} {fuel : Nat} {listed : Array Bool} {a : Act} {w : World} {rs : List Nat} (i : Nat) (d : Option Tmp) (hi : ops[i]? = some o) (hw : Region.wanted o (yielded ops a.tmps) = true) (hd : o.dst = d) (v : Value) (w' : World)
    (he : (execOp a.eval o).run Tryd.prog w = .ok (.value v) w') (hS : S w') (h : wpAnyH Tryd.prog md ops Q S fuel (listed.setIfInBounds i true) (a.put d v) w') (hs : AllReadyH Tryd.prog md ops Q S fuel listed a w rs) : AllReadyH Tryd.prog md ops Q S fuel listed a w (i :: rs) := by
  subst hd
  refine AllReadyH.cons hi (fun K hK => ?_) hs
  rw [if_pos hw]
  unfold Oper.wp
  rw [he]
  exact hK.out _ _ hS (fun _ => h)


theorem put_ne (a : Act) (i j : Nat) (v : Value) (h : i ≠ j) : (a.put (some i) v).eval (.tmp j) = a.eval (.tmp j) := by
  simp [Act.put, Act.eval, Array.getD_eq_getD_getElem?, Array.getElem?_setIfInBounds_ne h]
theorem put_eq (a : Act) (i : Nat) (v : Value) (h : i < a.tmps.size) : (a.put (some i) v).eval (.tmp i) = v := by
  simp [Act.put, Act.eval, Array.getD_eq_getD_getElem?, h]
theorem put_size (a : Act) (i : Nat) (v : Value) : (a.put (some i) v).tmps.size = a.tmps.size := by simp [Act.put]
theorem put_comm (a : Act) (i j : Nat) (u v : Value) (h : i ≠ j) : (a.put (some i) u).put (some j) v = (a.put (some j) v).put (some i) u := by
  simp only [Act.put]
  congr 1
  exact Array.setIfInBounds_comm u v h

end Go.Proofs.YtkmjpebfaodfaaaDoor

/-
  What readTerms of impl answers.
-/
namespace Go.Proofs.YtkmjpebfaodfaaaDoor
open Go.RowKit
set_option linter.unusedVariables false

/-- Is it a number but for lowest terms? -/
def okT (l : List UInt8) : Bool := (goodB (overN l) && !(negN l && decide (dval (overN l) = 0))) && (!brokenN l || (goodB (underN l) && (decide (dval (underN l) ≠ 0) && decide (dval (underN l) ≠ 1))))
/-- What readTerms should hand back. -/
def ReadT (l : List UInt8) (e : Ending) : Prop := ∃ (g : Bool) (k j : Nat) (p q : List Int), e = .returned (.tuple #[.agg (numC g k p j q), .bool (okT l)]) ∧ p.length = 204 ∧ q.length = 204 ∧ (okT l = true → g = negN l ∧ Rep (topN l) k p ∧ Rep (botN l) j q ∧ k ≤ 100 ∧ j ≤ 100 ∧ j ≠ 0)

theorem okN_eq (l : List UInt8) : okN l = (okT l && (decide (botN l = 1) || decide (Nat.gcd (topN l) (botN l) = 1))) := by
  unfold okN okT botN topN
  cases brokenN l with
  | false => simp
  | true =>
    simp only [Bool.not_true, Bool.false_or, if_true]
    by_cases h1 : dval (underN l) = 1
    · simp [h1]
    · by_cases h0 : dval (underN l) = 0
      · simp [h0]
      · simp [h0, h1, Bool.and_assoc]

theorem one_lt' (k : Nat) (hk : k ≠ 0) : 1 < 10 ^ k := Nat.one_lt_pow hk (by decide)
theorem good_lt' {l : List UInt8} (h : goodB l = true) : dval l < 10 ^ 600 := (canon_len_le (good_canon h) 600 (by omega)).1 (good_len h)

end Go.Proofs.YtkmjpebfaodfaaaDoor

/-
  What readNum of impl answers.
-/
namespace Go.Proofs.YtkmjpebfaodfaaaDoor
open Go.RowKit
set_option linter.unusedVariables false

/-- The goal is a list's walk, and nothing else. -/
theorem wpList_id {ops : Array Oper} {rest : List Oper} {o : Oper} {a : Act} {w : World} {Q : Exit → Act → World → Prop} (h : wpList Tryd.prog ops Q (o :: rest) a w) : wpList Tryd.prog ops Q (o :: rest) a w := h

end Go.Proofs.YtkmjpebfaodfaaaDoor

/-
  What impl.readNums answers: two texts as fractions.
-/
namespace Go.Proofs.YtkmjpebfaodfaaaDoor
open Go.RowKit
set_option linter.unusedVariables false

/-- What is read of a text. -/
def OneN (l : List UInt8) (g : Bool) (k j : Nat) (p q : List Int) : Prop := p.length = 204 ∧ q.length = 204 ∧ (okN l = true → g = negN l ∧ Rep (topN l) k p ∧ Rep (botN l) j q ∧ k ≤ 100 ∧ j ≤ 100 ∧ j ≠ 0)

end Go.Proofs.YtkmjpebfaodfaaaDoor
