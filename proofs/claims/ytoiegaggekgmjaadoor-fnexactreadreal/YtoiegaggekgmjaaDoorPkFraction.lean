/-
  The texts Fraction, IsOne, HeldMid, one behind the other.
-/
import Derived.Test.YtoiegaggekgmjaaDoorWhole
import Derived.Test.YtoiegaggekgmjaaDoorPkDivideA

/-
  What wholeOf and fraction of impl answer.
-/
namespace Go.Proofs.YtoiegaggekgmjaaDoor
open Go.RowKit
set_option linter.unusedVariables false

end Go.Proofs.YtoiegaggekgmjaaDoor

/-
  What isOne of impl's nats and isWhole of its fractions answer.
-/
namespace Go.Proofs.YtoiegaggekgmjaaDoor
open Go.RowKit
set_option linter.unusedVariables false

theorem wp_mid_nat {o : Oper} {a : Act} {w : World} {K : Act → World → Prop} {Q : Exit → Act → World → Prop} (x : Operand) (ho : o.op = .load 33 x) (b off : Nat) (hx : a.eval x = .pointer (some ⟨b, off, none⟩)) (u : Int) (p : List Int) (hr : w.rangeAt b off (natL u p)) (hl : p.length = 204)
    (h : K (a.put o.dst (.agg (natC u p))) w) : o.wp Tryd.prog a w K Q :=
  wp_load_mid 33 x ho b off hx (natL u p) _ hr Tryd.underlying33 rfl (by rw [nat_info u p hl, natC_eq]; simp) h
theorem wp_row_nat {o : Oper} {a : Act} {w : World} {K : Act → World → Prop} {Q : Exit → Act → World → Prop} (x : Operand) (ho : o.op = .load 33 x) (b : Nat) (hx : a.eval x = .pointer (some ⟨b, 0, none⟩)) (u : Int) (p : List Int) (hN : NatAt w b u p) (hl : p.length = 204)
    (h : K (a.put o.dst (.agg (natC u p))) w) : o.wp Tryd.prog a w K Q :=
  wp_load_row 33 x ho b hx 33 (natC u p) (0, 0) _ hN Tryd.underlying33 rfl (nat_info u p hl) h
/-- The same for an operation behind a guard that says yes. -/
theorem load_nat_w {ops : Array Oper} {rest : List Oper} {o : Oper} {a : Act} {w : World} {Q : Exit → Act → World → Prop} (hw : Region.wanted o (yielded ops a.tmps) = true) (x : Operand) (ho : o.op = .load 33 x)
    (b : Nat) (hx : a.eval x = .pointer (some ⟨b, 0, none⟩)) (u : Int) (p : List Int) (hN : NatAt w b u p) (hl : p.length = 204)
    (h : wpList Tryd.prog ops Q rest (a.put o.dst (.agg (natC u p))) w) : wpList Tryd.prog ops Q (o :: rest) a w :=
  wpList_step fun K hK => by rw [if_pos hw]; exact wp_row_nat x ho b hx u p hN hl (hK _ _ h)
theorem load_mid_w {ops : Array Oper} {rest : List Oper} {o : Oper} {a : Act} {w : World} {Q : Exit → Act → World → Prop} (hw : Region.wanted o (yielded ops a.tmps) = true) (x : Operand) (ho : o.op = .load 33 x)
    (b off : Nat) (hx : a.eval x = .pointer (some ⟨b, off, none⟩)) (u : Int) (p : List Int) (hr : w.rangeAt b off (natL u p)) (hl : p.length = 204)
    (h : wpList Tryd.prog ops Q rest (a.put o.dst (.agg (natC u p))) w) : wpList Tryd.prog ops Q (o :: rest) a w :=
  wpList_step fun K hK => by rw [if_pos hw]; exact wp_mid_nat x ho b off hx u p hr hl (hK _ _ h)
end Go.Proofs.YtoiegaggekgmjaaDoor

/-
  Drawn regions that read a nat or a whole number within a row.
-/
namespace Go.Proofs.YtoiegaggekgmjaaDoor
open Go.RowKit
set_option linter.unusedVariables false

theorem run_mid_nat {o : Oper} {a : Act} {w : World} (x : Operand) (ho : o.op = .load 33 x) (b off : Nat) (hx : a.eval x = .pointer (some ⟨b, off, none⟩)) (u : Int) (p : List Int) (hr : w.rangeAt b off (natL u p)) (hl : p.length = 204) :
    (execOp a.eval o).run Tryd.prog w = .ok (.value (.agg (natC u p))) w := by
  have h := run_loadAt_mid (P := Tryd.prog) w b off 33 (natL u p) _ hr Tryd.underlying33 rfl (by rw [nat_info u p hl, natC_eq]; simp)
  unfold execOp
  simp only [ho, hx, Sem.run_bind, h, Result.andThen_ok]
  rfl
end Go.Proofs.YtoiegaggekgmjaaDoor
