/-
  Drawn regions that read a nat or a whole number within a row.
-/
import Derived.Test.YtjgpjafndaikcaaDoorIsOne
namespace Go.Proofs.YtjgpjafndaikcaaDoor
open Go.RowKit
set_option linter.unusedVariables false

/-- An operation of whatever kind that gives its value wherever S holds, ahead of all else. -/
theorem held_valS {ops : Array Oper} {Q : Exit → Act → World → Prop} {md : Region.Mode} {S : World → Prop} {o : Oper} {fuel : Nat} {listed : Array Bool} {a : Act} {w : World} (i : Nat) (d : Option Tmp) (hi : ops[i]? = some o) (hd : o.dst = d) (hs : Region.noSelect ops = true) (hf : Region.free md ops listed i = true) (hr : (Region.ready md ops listed).contains i = true)
    (hQ : ∀ c a d v w, Q (.panic c) (Act.put a d v) w → Q (.panic c) a w) (hw : Region.wanted o (yielded ops a.tmps) = true) (v : Value) (hv : ∀ w, S w → (execOp a.eval o).run Tryd.prog w = .ok (.value v) w) (hS : S w)
    (h : wpAnyH Tryd.prog md ops Q S fuel (listed.setIfInBounds i true) (a.put d v) w) : wpAnyH Tryd.prog md ops Q S (fuel + 1) listed a w := by
  subst hd
  exact wpAnyH_take hi hs hf hr (fun c a w => hQ c a _ _ w) (.inl ⟨hw, fun w hw' => hv w hw'⟩) hS h
theorem run_mid_nat {o : Oper} {a : Act} {w : World} (x : Operand) (ho : o.op = .load 35 x) (b off : Nat) (hx : a.eval x = .pointer (some ⟨b, off, none⟩)) (u : Int) (p : List Int) (hr : w.rangeAt b off (natL u p)) (hl : p.length = 204) :
    (execOp a.eval o).run Tryd.prog w = .ok (.value (.agg (natC u p))) w := by
  have h := run_loadAt_mid (P := Tryd.prog) w b off 35 (natL u p) _ hr Tryd.underlying35 rfl (by rw [nat_info u p hl, natC_eq]; simp)
  unfold execOp
  simp only [ho, hx, Sem.run_bind, h, Result.andThen_ok]
  rfl
theorem run_mid_whole {o : Oper} {a : Act} {w : World} (x : Operand) (ho : o.op = .load 40 x) (b off : Nat) (hx : a.eval x = .pointer (some ⟨b, off, none⟩)) (g : Bool) (u : Int) (p : List Int) (hr : w.rangeAt b off (Value.bool g :: natL u p)) (hl : p.length = 204) :
    (execOp a.eval o).run Tryd.prog w = .ok (.value (.agg (wholeC g u p))) w := by
  have h := run_loadAt_mid (P := Tryd.prog) w b off 40 (Value.bool g :: natL u p) _ hr Tryd.underlying40 rfl (by rw [whole_info g u p hl]; simp [wholeC])
  unfold execOp
  simp only [ho, hx, Sem.run_bind, h, Result.andThen_ok]
  rfl

end Go.Proofs.YtjgpjafndaikcaaDoor
