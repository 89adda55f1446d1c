/-
  The texts Fraction, IsOne, HeldMid, one behind the other.
-/
import Derived.Test.YtmfpnbmfcoahbaaDoorWhole
import Derived.Test.YtmfpnbmfcoahbaaDoorPkDivideA

/-
  What wholeOf and fraction of impl answer.
-/
namespace Go.Proofs.YtmfpnbmfcoahbaaDoor
open Go.RowKit
set_option linter.unusedVariables false

theorem res_whole {fn : Func} {x : Tmp} (h : fn.results = #[.cell x 97]) (tmps : Array Value) (w : World) (b : Nat) (g : Bool) (n : Int) (p : List Int)
    (hp : tmps.getD x undef = .pointer (some ⟨b, 0, none⟩)) (hN : WholeAt w b g n p) (hl : p.length = 204) : (results fn tmps).run Tryd.prog w = .ok (.agg (wholeC g n p)) w :=
  results_cell_row h tmps w b 97 (wholeC g n p) (0, 0) _ hp hN Tryd.underlying97 rfl (whole_info g n p hl)
set_option maxHeartbeats 1000000 in
set_option maxRecDepth 100000 in
theorem wholeOf_any (g : Bool) (k : Nat) (p : List Int) (w : World) (hp : p.length = 204) :
    Calls Tryd.prog 92 #[.bool g, .agg (natC k p)] w fun e w' => e = .returned (.agg (wholeC (g && decide (0 < k)) k p)) ∧ Below w.heap.size w w' := by
  have hz := zero_nat.1
  have hz1 := zero_whole.1
  have A := (NatAt.new w k p).old (.cells (wholeC false 0 zP) 97)
  have C : WholeAt ((w.alloc (.cells (natC k p) 46)).alloc (.cells (wholeC false 0 zP) 97)) (w.heap.size + 1) false 0 zP := by
    have := WholeAt.new (w.alloc (.cells (natC k p) 46)) false 0 zP
    rw [World.size_alloc] at this; exact this
  have hB : Below w.heap.size w ((w.alloc (.cells (natC k p) 46)).alloc (.cells (wholeC false 0 zP) 97)) := ((Below.refl _ _).alloc (Nat.le_refl _) _).alloc (by simp) _
  have a0 := A.c0
  cases g with
  | true =>
    by_cases h : 0 < (k : Int)
    · have hd : decide (0 < k) = true := decide_eq_true (by omega)
      rw [hd]
      go_enter Tryd.func92, Tryd.ntmps92
      go_wp2_with (first | (refine load_nat rfl _ rfl w.heap.size rfl k p A hp ?_) | (refine build_whole rfl _ _ rfl _ rfl true k p hp rfl rfl ?_) | (refine store_whole rfl _ _ rfl rfl (w.heap.size + 1) true k p rfl rfl false 0 zP C zP_len hp ?_; intro w1 hN1 hg1 hs1))
      refine bodyPost_ret (v := .agg (wholeC true k p)) (res_whole Tryd.results92 _ _ (w.heap.size + 1) _ _ _ rfl hN1 hp) rfl ⟨rfl, ?_⟩
      exact hB.grown hg1 (by simp; omega) (by intro k hk; cases hk; omega)
    · have hd : decide (0 < k) = false := decide_eq_false (by omega)
      rw [hd]
      go_enter Tryd.func92, Tryd.ntmps92
      go_wp2_with (first | (refine load_nat rfl _ rfl w.heap.size rfl k p A hp ?_) | (refine build_whole rfl _ _ rfl _ rfl false k p hp rfl rfl ?_) | (refine store_whole rfl _ _ rfl rfl (w.heap.size + 1) false k p rfl rfl false 0 zP C zP_len hp ?_; intro w1 hN1 hg1 hs1))
      refine bodyPost_ret (v := .agg (wholeC false k p)) (res_whole Tryd.results92 _ _ (w.heap.size + 1) _ _ _ rfl hN1 hp) rfl ⟨rfl, ?_⟩
      exact hB.grown hg1 (by simp; omega) (by intro k hk; cases hk; omega)
  | false =>
    rw [Bool.false_and]
    go_enter Tryd.func92, Tryd.ntmps92
    go_wp2_with (first | (refine load_nat rfl _ rfl w.heap.size rfl k p A hp ?_) | (refine build_whole rfl _ _ rfl _ rfl false k p hp rfl rfl ?_) | (refine store_whole rfl _ _ rfl rfl (w.heap.size + 1) false k p rfl rfl false 0 zP C zP_len hp ?_; intro w1 hN1 hg1 hs1))
    refine bodyPost_ret (v := .agg (wholeC false k p)) (res_whole Tryd.results92 _ _ (w.heap.size + 1) _ _ _ rfl hN1 hp) rfl ⟨rfl, ?_⟩
    exact hB.grown hg1 (by simp; omega) (by intro k hk; cases hk; omega)

end Go.Proofs.YtmfpnbmfcoahbaaDoor

/-
  What isOne of impl's nats and isWhole of its fractions answer.
-/
namespace Go.Proofs.YtmfpnbmfcoahbaaDoor
open Go.RowKit
set_option linter.unusedVariables false

theorem wp_mid_nat {o : Oper} {a : Act} {w : World} {K : Act → World → Prop} {Q : Exit → Act → World → Prop} (x : Operand) (ho : o.op = .load 46 x) (b off : Nat) (hx : a.eval x = .pointer (some ⟨b, off, none⟩)) (u : Int) (p : List Int) (hr : w.rangeAt b off (natL u p)) (hl : p.length = 204)
    (h : K (a.put o.dst (.agg (natC u p))) w) : o.wp Tryd.prog a w K Q :=
  wp_load_mid 46 x ho b off hx (natL u p) _ hr Tryd.underlying46 rfl (by rw [nat_info u p hl, natC_eq]; simp) h
theorem wp_row_nat {o : Oper} {a : Act} {w : World} {K : Act → World → Prop} {Q : Exit → Act → World → Prop} (x : Operand) (ho : o.op = .load 46 x) (b : Nat) (hx : a.eval x = .pointer (some ⟨b, 0, none⟩)) (u : Int) (p : List Int) (hN : NatAt w b u p) (hl : p.length = 204)
    (h : K (a.put o.dst (.agg (natC u p))) w) : o.wp Tryd.prog a w K Q :=
  wp_load_row 46 x ho b hx 46 (natC u p) (0, 0) _ hN Tryd.underlying46 rfl (nat_info u p hl) h
/-- The same for an operation behind a guard that says yes. -/
theorem load_nat_w {ops : Array Oper} {rest : List Oper} {o : Oper} {a : Act} {w : World} {Q : Exit → Act → World → Prop} (hw : Region.wanted o (yielded ops a.tmps) = true) (x : Operand) (ho : o.op = .load 46 x)
    (b : Nat) (hx : a.eval x = .pointer (some ⟨b, 0, none⟩)) (u : Int) (p : List Int) (hN : NatAt w b u p) (hl : p.length = 204)
    (h : wpList Tryd.prog ops Q rest (a.put o.dst (.agg (natC u p))) w) : wpList Tryd.prog ops Q (o :: rest) a w :=
  wpList_step fun K hK => by rw [if_pos hw]; exact wp_row_nat x ho b hx u p hN hl (hK _ _ h)
theorem load_mid_w {ops : Array Oper} {rest : List Oper} {o : Oper} {a : Act} {w : World} {Q : Exit → Act → World → Prop} (hw : Region.wanted o (yielded ops a.tmps) = true) (x : Operand) (ho : o.op = .load 46 x)
    (b off : Nat) (hx : a.eval x = .pointer (some ⟨b, off, none⟩)) (u : Int) (p : List Int) (hr : w.rangeAt b off (natL u p)) (hl : p.length = 204)
    (h : wpList Tryd.prog ops Q rest (a.put o.dst (.agg (natC u p))) w) : wpList Tryd.prog ops Q (o :: rest) a w :=
  wpList_step fun K hK => by rw [if_pos hw]; exact wp_mid_nat x ho b off hx u p hr hl (hK _ _ h)
end Go.Proofs.YtmfpnbmfcoahbaaDoor

/-
  Drawn regions that read a nat or a whole number within a row.
-/
namespace Go.Proofs.YtmfpnbmfcoahbaaDoor
open Go.RowKit
set_option linter.unusedVariables false

theorem run_mid_nat {o : Oper} {a : Act} {w : World} (x : Operand) (ho : o.op = .load 46 x) (b off : Nat) (hx : a.eval x = .pointer (some ⟨b, off, none⟩)) (u : Int) (p : List Int) (hr : w.rangeAt b off (natL u p)) (hl : p.length = 204) :
    (execOp a.eval o).run Tryd.prog w = .ok (.value (.agg (natC u p))) w := by
  have h := run_loadAt_mid (P := Tryd.prog) w b off 46 (natL u p) _ hr Tryd.underlying46 rfl (by rw [nat_info u p hl, natC_eq]; simp)
  unfold execOp
  simp only [ho, hx, Sem.run_bind, h, Result.andThen_ok]
  rfl
theorem run_mid_whole {o : Oper} {a : Act} {w : World} (x : Operand) (ho : o.op = .load 97 x) (b off : Nat) (hx : a.eval x = .pointer (some ⟨b, off, none⟩)) (g : Bool) (u : Int) (p : List Int) (hr : w.rangeAt b off (Value.bool g :: natL u p)) (hl : p.length = 204) :
    (execOp a.eval o).run Tryd.prog w = .ok (.value (.agg (wholeC g u p))) w := by
  have h := run_loadAt_mid (P := Tryd.prog) w b off 97 (Value.bool g :: natL u p) _ hr Tryd.underlying97 rfl (by rw [whole_info g u p hl]; simp [wholeC])
  unfold execOp
  simp only [ho, hx, Sem.run_bind, h, Result.andThen_ok]
  rfl

end Go.Proofs.YtmfpnbmfcoahbaaDoor
