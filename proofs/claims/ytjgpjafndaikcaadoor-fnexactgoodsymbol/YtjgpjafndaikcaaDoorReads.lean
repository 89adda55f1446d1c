/-
  What impl.readNats answers: two texts as parts.
-/
import Derived.Test.YtjgpjafndaikcaaDoorRead
import Derived.Test.YtjgpjafndaikcaaDoorHeld
namespace Go.Proofs.YtjgpjafndaikcaaDoor
open Go.RowKit
set_option linter.unusedVariables false

theorem res_nat2_tmp {fn : Func} {x y u : Tmp} (h : fn.results = #[.cell x 35, .cell y 35, .tmp u]) (tmps : Array Value) (w : World) (b c : Nat) (n m : Int) (p q : List Int) (v : Value)
    (hx : tmps.getD x undef = .pointer (some ⟨b, 0, none⟩)) (hy : tmps.getD y undef = .pointer (some ⟨c, 0, none⟩)) (hv : tmps.getD u undef = v) (hN : NatAt w b n p) (hM : NatAt w c m q) (hl : p.length = 204) (hm : q.length = 204) :
    (results fn tmps).run Tryd.prog w = .ok (.tuple #[.agg (natC n p), .agg (natC m q), v]) w := by
  have e1 := run_loadVar_row w b 35 35 (natC n p) (0, 0) _ hN Tryd.underlying35 rfl (nat_info n p hl)
  have e2 := run_loadVar_row w c 35 35 (natC m q) (0, 0) _ hM Tryd.underlying35 rfl (nat_info m q hm)
  have hx' : tmps[x]?.getD undef = .pointer (some ⟨b, 0, none⟩) := by simpa using hx
  have hy' : tmps[y]?.getD undef = .pointer (some ⟨c, 0, none⟩) := by simpa using hy
  have hv' : tmps[u]?.getD undef = v := by simpa using hv
  simp [results, h, hx', hy', hv', asAddr, e1, e2]

end Go.Proofs.YtjgpjafndaikcaaDoor
