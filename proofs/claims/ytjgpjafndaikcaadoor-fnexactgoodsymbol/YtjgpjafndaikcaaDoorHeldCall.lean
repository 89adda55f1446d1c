/-
  A drawn region whose next operation is a call.
-/
import Derived.Test.YtjgpjafndaikcaaDoorHeld
namespace Go.Proofs.YtjgpjafndaikcaaDoor
open Go.RowKit
set_option linter.unusedVariables false

/-- The one operation that may come up: a call. -/
theorem held_call {ops : Array Oper} {Q : Exit → Act → World → Prop} {md : Region.Mode} {S : World → Prop} {o : Oper} {fuel : Nat} {listed : Array Bool} {a : Act} {w : World} (i : Nat) (d : Option Tmp) (hr : Region.ready md ops listed = [i]) (hi : ops[i]? = some o) (hw : Region.wanted o (yielded ops a.tmps) = true) (hd : o.dst = d) (f : FuncId) (args : Array Value)
    (he : (execOp a.eval o).run Tryd.prog w = .ok (.enter f args) w) (R : Ending → World → Prop) (hc : Calls Tryd.prog f args w R)
    (h : ∀ e w', R e w' → ∃ v, e = .returned v ∧ S w' ∧ wpAnyH Tryd.prog md ops Q S fuel (listed.setIfInBounds i true) (a.put d v) w') : wpAnyH Tryd.prog md ops Q S (fuel + 1) listed a w := by
  subst hd
  refine wpAnyH_ready hr (by simp) (AllReadyH.cons hi (fun K hK => ?_) AllReadyH.nil)
  rw [if_pos hw]
  unfold Oper.wp
  rw [he]
  simp only [Oper.upon]
  refine hc.mono ?_
  intro e w' hR
  obtain ⟨v, rfl, hS, hn⟩ := h e w' hR
  exact hK.out _ _ hS (fun _ => hn)

/-- The one operation that may come up: a nat is read whole. -/
theorem held_load1 {ops : Array Oper} {Q : Exit → Act → World → Prop} {md : Region.Mode} {S : World → Prop} {o : Oper} {fuel : Nat} {listed : Array Bool} {a : Act} {w : World} (i : Nat) (d : Option Tmp) (hr : Region.ready md ops listed = [i]) (hi : ops[i]? = some o) (hw : Region.wanted o (yielded ops a.tmps) = true) (hd : o.dst = d) (x : Operand) (ho : o.op = .load 35 x)
    (b : Nat) (hx : a.eval x = .pointer (some ⟨b, 0, none⟩)) (u : Int) (p : List Int) (hN : NatAt w b u p) (hl : p.length = 204) (hS : S w)
    (h : wpAnyH Tryd.prog md ops Q S fuel (listed.setIfInBounds i true) (a.put d (.agg (natC u p))) w) : wpAnyH Tryd.prog md ops Q S (fuel + 1) listed a w := by
  subst hd
  refine wpAnyH_ready hr (by simp) (AllReadyH.cons hi (fun K hK => ?_) AllReadyH.nil)
  rw [if_pos hw]
  unfold Oper.wp
  have e : (execOp a.eval o).run Tryd.prog w = .ok (.value (.agg (natC u p))) w := by
    unfold execOp
    simp only [ho, hx, Instr.loadAt, Instr.sureAddr, Sem.run_bind, Sem.run_pure, Result.andThen_ok, run_loadVar_row w b 35 35 (natC u p) (0, 0) _ hN Tryd.underlying35 rfl (nat_info u p hl)]
  rw [e]
  exact hK.out _ _ hS (fun _ => h)

theorem res_nat2 {fn : Func} {x y : Tmp} (h : fn.results = #[.cell x 35, .cell y 35]) (tmps : Array Value) (w : World) (b c : Nat) (n m : Int) (p q : List Int)
    (hx : tmps.getD x undef = .pointer (some ⟨b, 0, none⟩)) (hy : tmps.getD y undef = .pointer (some ⟨c, 0, none⟩)) (hN : NatAt w b n p) (hM : NatAt w c m q) (hl : p.length = 204) (hm : q.length = 204) :
    (results fn tmps).run Tryd.prog w = .ok (.tuple #[.agg (natC n p), .agg (natC m q)]) w := by
  have e1 := run_loadVar_row w b 35 35 (natC n p) (0, 0) _ hN Tryd.underlying35 rfl (nat_info n p hl)
  have e2 := run_loadVar_row w c 35 35 (natC m q) (0, 0) _ hM Tryd.underlying35 rfl (nat_info m q hm)
  have hx' : tmps[x]?.getD undef = .pointer (some ⟨b, 0, none⟩) := by simpa using hx
  have hy' : tmps[y]?.getD undef = .pointer (some ⟨c, 0, none⟩) := by simpa using hy
  simp [results, h, hx', hy', asAddr, e1, e2]
end Go.Proofs.YtjgpjafndaikcaaDoor
