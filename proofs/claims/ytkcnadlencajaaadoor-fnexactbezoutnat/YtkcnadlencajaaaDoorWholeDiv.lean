/-
  What divide of impl's whole numbers answers: written by gen/wholediv.py.
-/
import Derived.Test.YtkcnadlencajaaaDoorPkNumTimes
namespace Go.Proofs.YtkcnadlencajaaaDoor
open Go.RowKit
set_option linter.unusedVariables false

theorem run_row_whole {o : Oper} {a : Act} {w : World} (x : Operand) (ho : o.op = .load 71 x) (b : Nat) (hx : a.eval x = .pointer (some ⟨b, 0, none⟩)) (g : Bool) (u : Int) (p : List Int) (hN : WholeAt w b g u p) (hl : p.length = 204) :
    (execOp a.eval o).run Tryd.prog w = .ok (.value (.agg (wholeC g u p))) w := by
  unfold execOp
  simp only [ho, hx, Instr.loadAt, Instr.sureAddr, Sem.run_bind, Sem.run_pure, Result.andThen_ok, run_loadVar_row w b 71 71 (wholeC g u p) (0, 0) _ hN Tryd.underlying71 rfl (whole_info g u p hl)]
theorem res_whole2 {fn : Func} {x y : Tmp} (h : fn.results = #[.cell x 71, .cell y 71]) (tmps : Array Value) (w : World) (b c : Nat) (g g' : Bool) (n m : Int) (p q : List Int)
    (hx : tmps.getD x undef = .pointer (some ⟨b, 0, none⟩)) (hy : tmps.getD y undef = .pointer (some ⟨c, 0, none⟩)) (hN : WholeAt w b g n p) (hM : WholeAt w c g' m q) (hl : p.length = 204) (hm : q.length = 204) :
    (results fn tmps).run Tryd.prog w = .ok (.tuple #[.agg (wholeC g n p), .agg (wholeC g' m q)]) w := by
  have e1 := run_loadVar_row w b 71 71 (wholeC g n p) (0, 0) _ hN Tryd.underlying71 rfl (whole_info g n p hl)
  have e2 := run_loadVar_row w c 71 71 (wholeC g' m q) (0, 0) _ hM Tryd.underlying71 rfl (whole_info g' m q hm)
  have hx' : tmps[x]?.getD undef = .pointer (some ⟨b, 0, none⟩) := by simpa using hx
  have hy' : tmps[y]?.getD undef = .pointer (some ⟨c, 0, none⟩) := by simpa using hy
  simp [results, h, hx', hy', asAddr, e1, e2]

end Go.Proofs.YtkcnadlencajaaaDoor
