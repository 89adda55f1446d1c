/-
  Instructions that came in as an argument: what their reading says of the cells.
-/
import Derived.Test.YtkmjpebfaodfaaaDoorRecArg
import Derived.Test.YtkmjpebfaodfaaaDoorRecInstr
namespace Go.Proofs.YtkmjpebfaodfaaaDoor
open Go.ChangeShapes Go.WideShapes Go.ChangeAt Go.RowKit
set_option linter.unusedVariables false

set_option maxRecDepth 100000 in
theorem open_instr {H : Type} {enc : TypeId × Value → H} {W : World} (n : Nat) (cs : List Value) (x : DataW H × List MemPlace) (hl : cs.length = 3) (h : DataW.trod enc Tryd.prog W 0 (fun _ => true) true n 38 cs = some x) :
    ∃ d : Int × Int × ByteArray, cs = instrL d ∧ d.2.2.size ≤ maxLen := by
  obtain ⟨xs, m, _, _, _, hlen, hf⟩ := DataW.trod_struct Tryd.underlying38 h
  obtain ⟨a, b, c, rfl⟩ : ∃ a b c, cs = [a, b, c] := by
    match cs, hl with
    | [a, b, c], _ => exact ⟨a, b, c, rfl⟩
  obtain ⟨y0, y1, y2, rfl⟩ : ∃ y0 y1 y2, xs = [y0, y1, y2] := by
    match xs, hlen with
    | [y0, y1, y2], _ => exact ⟨y0, y1, y2, rfl⟩
  have g0 : DataW.trod enc Tryd.prog W 0 (fun _ => true) true m 3 (([a, b, c].drop 0).take (Tryd.prog.cellsOf 3)) = some y0 := by simpa using hf 0 _ rfl
  have g1 : DataW.trod enc Tryd.prog W 0 (fun _ => true) true m 3 (([a, b, c].drop 1).take (Tryd.prog.cellsOf 3)) = some y1 := by simpa using hf 1 _ rfl
  have g2 : DataW.trod enc Tryd.prog W 0 (fun _ => true) true m 9 (([a, b, c].drop 2).take (Tryd.prog.cellsOf 9)) = some y2 := by simpa using hf 2 _ rfl
  rw [cells_intR] at g0 g1
  rw [cells_strR] at g2
  obtain ⟨k, e0, _, _⟩ := DataW.trod_int Tryd.underlying3 g0
  obtain ⟨u, e1, _, _⟩ := DataW.trod_int Tryd.underlying3 g1
  obtain ⟨t, e2, _, ht⟩ := DataW.trod_string Tryd.underlying9 g2
  simp at e0 e1 e2
  exact ⟨(k, u, t), by rw [e0, e1, e2]; rfl, ht⟩
theorem cells_linstr : Tryd.prog.cellsOf 38 = 3 := by kernel_rfl

set_option maxRecDepth 100000 in
theorem open_code {H : Type} {enc : TypeId × Value → H} {W : World} {base : Nat} {v : Value} {d : DataW H} {ps : List MemPlace} (hval : Value.okWide Tryd.prog W .any base 22 v) (h : DataW.Trod enc Tryd.prog W 0 (fun _ => true) true 22 v d ps) :
    ∃ l : List (Int × Int × ByteArray), SlR W v instrL 3 l ∧ (∀ i, i < l.length → (l.getD i default).2.2.size ≤ maxLen) ∧ l.length ≤ maxLen := by
  obtain ⟨a0, len, cap, rfl⟩ := okWide_slice Tryd.underlying22 hval
  obtain ⟨fuel, hf⟩ := h
  obtain ⟨v', l, e1, hL, q1, q2⟩ := open_recs instrL 3 (by decide) instrL_len (fun d => d.2.2.size ≤ maxLen) Tryd.underlying22 cells_linstr open_instr hf
  have e2 : Value.slice a0 len cap = v' := by simpa [Value.cells] using e1
  rw [e2]
  exact ⟨l, hL, q1, q2⟩
end Go.Proofs.YtkmjpebfaodfaaaDoor
