/-
  What the laws' own marks of texts are.
-/
import Derived.Shelf.Abstract
import Derived.Test.YtkmjpebfaodfaaaRecs2
namespace Go.Proofs.Ytkmjpebfaodfaaa
open Go.RowKit
set_option linter.unusedVariables false

theorem dec_step (q : Nat) (h : ¬ q < 10) : Lib.decDigits q = Lib.decDigits (q / 10) ++ [db (q % 10)] := by
  rw [Lib.decDigits, dif_neg h]; rfl
theorem dec_one (q : Nat) (h : q < 10) : Lib.decDigits q = [db q] := by
  rw [Lib.decDigits, dif_pos h]; rfl

theorem run_loadS {o : Oper} {a : Act} {w : World} {x : Operand} {v : Value} {A : Addr} (ho : o.op = .load 9 x) (hx : a.eval x = .pointer (some A)) (hc : w.cell? A = some v) :
    (execOp a.eval o).run Try.prog w = .ok (.value v) w := by
  have ha : ∀ w, (isAgg 9).run Try.prog w = .ok false w := run_isAgg_plain Try.underlying9 rfl
  unfold execOp
  simp only [ho, hx]
  go_simp
theorem ownR_below {w w' : World} {B c n : Nat} {T : TypeId} {v : Value} {xs : List Value} (h : w.ownsRow B T c v n xs) (hB : Below w.heap.size w w') : w'.ownsRow B T c v n xs := by
  refine ⟨h.1, ?_⟩
  rcases h.2 with h1 | ⟨g, cap, cur, h1, h2, h3, h4⟩
  · exact .inl h1
  · have hlt : g < w.heap.size := (Array.getElem?_eq_some_iff.1 h3).1
    exact .inr ⟨g, cap, cur, h1, h2, by rw [hB.block g (by omega)]; exact h3, h4⟩
end Go.Proofs.Ytkmjpebfaodfaaa
