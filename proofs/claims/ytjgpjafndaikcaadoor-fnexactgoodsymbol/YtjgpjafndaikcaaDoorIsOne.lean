/-
  What isOne of impl's nats and isWhole of its fractions answer.
-/
import Derived.Test.YtjgpjafndaikcaaDoorFraction
namespace Go.Proofs.YtjgpjafndaikcaaDoor
open Go.RowKit
set_option linter.unusedVariables false

theorem isWhole_any {n m k j : Nat} {p q : List Int} (g : Bool) (w : World) (hp : p.length = 204) (hQ : Rep m j q) :
    Calls Tryd.prog 41 #[.agg (numC g k p j q)] w fun e w' => e = .returned (.bool (decide (m = 1))) ∧ Below w.heap.size w w' := by
  have hq := hQ.len
  have A := NumAt.new w g k p j q
  have hB : Below w.heap.size w (w.alloc (.cells (numC g k p j q) 42)) := (Below.refl _ _).alloc (Nat.le_refl _) _
  have HQ := hide hQ
  clear hQ
  go_enter Tryd.func41, Tryd.ntmps41
  go_wp2_with (refine load_mid_nat rfl _ rfl w.heap.size 206 rfl j q (A.bottom hp) hq ?_)
  refine (isOne_any _ HQ.out).mono ?_
  rintro e w1 ⟨rfl, hW1⟩
  go_wp2
  go_ret
  exact ⟨rfl, hB.trans (hW1.mono (by simp))⟩

theorem wp_mid_nat {o : Oper} {a : Act} {w : World} {K : Act → World → Prop} {Q : Exit → Act → World → Prop} (x : Operand) (ho : o.op = .load 35 x) (b off : Nat) (hx : a.eval x = .pointer (some ⟨b, off, none⟩)) (u : Int) (p : List Int) (hr : w.rangeAt b off (natL u p)) (hl : p.length = 204)
    (h : K (a.put o.dst (.agg (natC u p))) w) : o.wp Tryd.prog a w K Q :=
  wp_load_mid 35 x ho b off hx (natL u p) _ hr Tryd.underlying35 rfl (by rw [nat_info u p hl, natC_eq]; simp) h
theorem wp_row_nat {o : Oper} {a : Act} {w : World} {K : Act → World → Prop} {Q : Exit → Act → World → Prop} (x : Operand) (ho : o.op = .load 35 x) (b : Nat) (hx : a.eval x = .pointer (some ⟨b, 0, none⟩)) (u : Int) (p : List Int) (hN : NatAt w b u p) (hl : p.length = 204)
    (h : K (a.put o.dst (.agg (natC u p))) w) : o.wp Tryd.prog a w K Q :=
  wp_load_row 35 x ho b hx 35 (natC u p) (0, 0) _ hN Tryd.underlying35 rfl (nat_info u p hl) h
theorem wp_row_num {o : Oper} {a : Act} {w : World} {K : Act → World → Prop} {Q : Exit → Act → World → Prop} (x : Operand) (ho : o.op = .load 42 x) (b : Nat) (hx : a.eval x = .pointer (some ⟨b, 0, none⟩)) (g : Bool) (u : Int) (p : List Int) (v : Int) (q : List Int) (hN : NumAt w b g u p v q) (hl : p.length = 204) (hm : q.length = 204)
    (h : K (a.put o.dst (.agg (numC g u p v q))) w) : o.wp Tryd.prog a w K Q :=
  wp_load_row 42 x ho b hx 42 (numC g u p v q) (0, 0) _ hN Tryd.underlying42 rfl (num_info g u p v q hl hm) h
/-- The same for an operation behind a guard that says yes. -/
theorem load_nat_w {ops : Array Oper} {rest : List Oper} {o : Oper} {a : Act} {w : World} {Q : Exit → Act → World → Prop} (hw : Region.wanted o (yielded ops a.tmps) = true) (x : Operand) (ho : o.op = .load 35 x)
    (b : Nat) (hx : a.eval x = .pointer (some ⟨b, 0, none⟩)) (u : Int) (p : List Int) (hN : NatAt w b u p) (hl : p.length = 204)
    (h : wpList Tryd.prog ops Q rest (a.put o.dst (.agg (natC u p))) w) : wpList Tryd.prog ops Q (o :: rest) a w :=
  wpList_step fun K hK => by rw [if_pos hw]; exact wp_row_nat x ho b hx u p hN hl (hK _ _ h)
theorem load_num_w {ops : Array Oper} {rest : List Oper} {o : Oper} {a : Act} {w : World} {Q : Exit → Act → World → Prop} (hw : Region.wanted o (yielded ops a.tmps) = true) (x : Operand) (ho : o.op = .load 42 x)
    (b : Nat) (hx : a.eval x = .pointer (some ⟨b, 0, none⟩)) (g : Bool) (u : Int) (p : List Int) (v : Int) (q : List Int) (hN : NumAt w b g u p v q) (hl : p.length = 204) (hm : q.length = 204)
    (h : wpList Tryd.prog ops Q rest (a.put o.dst (.agg (numC g u p v q))) w) : wpList Tryd.prog ops Q (o :: rest) a w :=
  wpList_step fun K hK => by rw [if_pos hw]; exact wp_row_num x ho b hx g u p v q hN hl hm (hK _ _ h)
theorem load_mid_w {ops : Array Oper} {rest : List Oper} {o : Oper} {a : Act} {w : World} {Q : Exit → Act → World → Prop} (hw : Region.wanted o (yielded ops a.tmps) = true) (x : Operand) (ho : o.op = .load 35 x)
    (b off : Nat) (hx : a.eval x = .pointer (some ⟨b, off, none⟩)) (u : Int) (p : List Int) (hr : w.rangeAt b off (natL u p)) (hl : p.length = 204)
    (h : wpList Tryd.prog ops Q rest (a.put o.dst (.agg (natC u p))) w) : wpList Tryd.prog ops Q (o :: rest) a w :=
  wpList_step fun K hK => by rw [if_pos hw]; exact wp_mid_nat x ho b off hx u p hr hl (hK _ _ h)
theorem NumAt.bused {w : World} {b : Nat} {g : Bool} {u : Int} {p : List Int} {v : Int} {q : List Int} (h : NumAt w b g u p v q) (hp : p.length = 204) : w.cell? ⟨b, 206, none⟩ = some (.int .i64 v) := by
  rw [cell_of_row w b 206 _ _ _ h, num_split2]
  simp only [List.getElem?_toArray, List.append_assoc]
  rw [List.getElem?_append_right (by simp [natL_len, hp])]
  simp [hp, natL]
end Go.Proofs.YtjgpjafndaikcaaDoor
