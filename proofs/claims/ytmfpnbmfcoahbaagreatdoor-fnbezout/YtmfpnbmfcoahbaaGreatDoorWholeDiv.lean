/-
  What divide of impl's whole numbers answers: written by gen/wholediv.py.
-/
import Derived.Test.YtmfpnbmfcoahbaaGreatDoorPkNumTimes
namespace Go.Proofs.YtmfpnbmfcoahbaaGreatDoor
open Go.RowKit
set_option linter.unusedVariables false

theorem run_row_whole {o : Oper} {a : Act} {w : World} (x : Operand) (ho : o.op = .load 36 x) (b : Nat) (hx : a.eval x = .pointer (some ⟨b, 0, none⟩)) (g : Bool) (u : Int) (p : List Int) (hN : WholeAt w b g u p) (hl : p.length = 204) :
    (execOp a.eval o).run Tryz.prog w = .ok (.value (.agg (wholeC g u p))) w := by
  unfold execOp
  simp only [ho, hx, Instr.loadAt, Instr.sureAddr, Sem.run_bind, Sem.run_pure, Result.andThen_ok, run_loadVar_row w b 36 36 (wholeC g u p) (0, 0) _ hN Tryz.underlying36 rfl (whole_info g u p hl)]
theorem res_whole2 {fn : Func} {x y : Tmp} (h : fn.results = #[.cell x 36, .cell y 36]) (tmps : Array Value) (w : World) (b c : Nat) (g g' : Bool) (n m : Int) (p q : List Int)
    (hx : tmps.getD x undef = .pointer (some ⟨b, 0, none⟩)) (hy : tmps.getD y undef = .pointer (some ⟨c, 0, none⟩)) (hN : WholeAt w b g n p) (hM : WholeAt w c g' m q) (hl : p.length = 204) (hm : q.length = 204) :
    (results fn tmps).run Tryz.prog w = .ok (.tuple #[.agg (wholeC g n p), .agg (wholeC g' m q)]) w := by
  have e1 := run_loadVar_row w b 36 36 (wholeC g n p) (0, 0) _ hN Tryz.underlying36 rfl (whole_info g n p hl)
  have e2 := run_loadVar_row w c 36 36 (wholeC g' m q) (0, 0) _ hM Tryz.underlying36 rfl (whole_info g' m q hm)
  have hx' : tmps[x]?.getD undef = .pointer (some ⟨b, 0, none⟩) := by simpa using hx
  have hy' : tmps[y]?.getD undef = .pointer (some ⟨c, 0, none⟩) := by simpa using hy
  simp [results, h, hx', hy', asAddr, e1, e2]

end Go.Proofs.YtmfpnbmfcoahbaaGreatDoor
