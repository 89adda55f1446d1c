/-
  Nodes that came in as an argument: what their reading says of the cells.
-/
import Derived.Test.YtnnhedncdpfiaaaRecArg
import Derived.Test.YtnnhedncdpfiaaaTreeMem
import Derived.Test.YtnnhedncdpfiaaaMarkTerm
namespace Go.Proofs.Ytnnhedncdpfiaaa
open Go.ChangeShapes Go.WideShapes Go.ChangeAt Go.RowKit
set_option linter.unusedVariables false

def ndsOf (l : List (Int × Int × Int)) : List Nd := l.map fun x => ⟨x.1, x.2.1, x.2.2⟩
theorem tri_ndsOf (l : List (Int × Int × Int)) : tri (ndsOf l) = l := by
  unfold tri ndsOf triN
  rw [List.map_map]
  exact List.map_id' l
theorem ndsOf_len (l : List (Int × Int × Int)) : (ndsOf l).length = l.length := by simp [ndsOf]
theorem ndsOf_tri (l : List Nd) : ndsOf (tri l) = l := by
  unfold tri ndsOf triN
  rw [List.map_map]
  exact List.map_id' l
theorem RecAt.nds {w : World} {b : Nat} {T : TypeId} {l : List (Int × Int × Int)} (h : RecAt w b T termL l) : NdIn w (slR b l) (ndsOf l) := by
  unfold NdIn
  rw [tri_ndsOf]
  exact h.inR termL_len

theorem cells_intT : Try.prog.cellsOf 3 = 1 := by kernel_rfl
set_option maxRecDepth 100000 in
theorem open_term {H : Type} {enc : TypeId × Value → H} {W : World} (n : Nat) (cs : List Value) (x : DataW H × List MemPlace) (hl : cs.length = 3) (h : DataW.trod enc Try.prog W 0 (fun _ => true) true n 57 cs = some x) :
    ∃ d : Int × Int × Int, cs = termL d ∧ True := by
  obtain ⟨xs, m, _, _, _, hlen, hf⟩ := DataW.trod_struct Try.underlying57 h
  obtain ⟨a, b, c, rfl⟩ : ∃ a b c, cs = [a, b, c] := by
    match cs, hl with
    | [a, b, c], _ => exact ⟨a, b, c, rfl⟩
  obtain ⟨y0, y1, y2, rfl⟩ : ∃ y0 y1 y2, xs = [y0, y1, y2] := by
    match xs, hlen with
    | [y0, y1, y2], _ => exact ⟨y0, y1, y2, rfl⟩
  have g0 : DataW.trod enc Try.prog W 0 (fun _ => true) true m 3 (([a, b, c].drop 0).take (Try.prog.cellsOf 3)) = some y0 := by simpa using hf 0 _ rfl
  have g1 : DataW.trod enc Try.prog W 0 (fun _ => true) true m 3 (([a, b, c].drop 1).take (Try.prog.cellsOf 3)) = some y1 := by simpa using hf 1 _ rfl
  have g2 : DataW.trod enc Try.prog W 0 (fun _ => true) true m 3 (([a, b, c].drop 2).take (Try.prog.cellsOf 3)) = some y2 := by simpa using hf 2 _ rfl
  rw [cells_intT] at g0 g1 g2
  obtain ⟨k, e0, _, _⟩ := DataW.trod_int Try.underlying3 g0
  obtain ⟨u, e1, _, _⟩ := DataW.trod_int Try.underlying3 g1
  obtain ⟨t, e2, _, _⟩ := DataW.trod_int Try.underlying3 g2
  simp at e0 e1 e2
  exact ⟨(k, u, t), by rw [e0, e1, e2]; rfl, trivial⟩
theorem cells_lterm : Try.prog.cellsOf 57 = 3 := by kernel_rfl

set_option maxRecDepth 100000 in
theorem open_terms {H : Type} {enc : TypeId × Value → H} {W : World} {base : Nat} {v : Value} {d : DataW H} {ps : List MemPlace} (hval : Value.okWide Try.prog W .any base 22 v) (h : DataW.Trod enc Try.prog W 0 (fun _ => true) true 22 v d ps) :
    ∃ l : List (Int × Int × Int), SlR W v termL 3 l ∧ l.length ≤ maxLen := by
  obtain ⟨a0, len, cap, rfl⟩ := okWide_slice Try.underlying22 hval
  obtain ⟨fuel, hf⟩ := h
  obtain ⟨v', l, e1, hL, q1, q2⟩ := open_recs termL 3 (by decide) termL_len (fun _ => True) Try.underlying22 cells_lterm open_term hf
  have e2 : Value.slice a0 len cap = v' := by simpa [Value.cells] using e1
  rw [e2]
  exact ⟨l, hL, q2⟩
end Go.Proofs.Ytnnhedncdpfiaaa
