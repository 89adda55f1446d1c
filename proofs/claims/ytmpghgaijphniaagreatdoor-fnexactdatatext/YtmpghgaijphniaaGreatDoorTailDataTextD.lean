/-
  The texts DatArg, one behind the other, as one.
-/
import Derived.Test.YtmpghgaijphniaaGreatDoorTailDataTextC
import Derived.Deep.Strs
import Derived.Carry
import Derived.WalkKit
import Derived.ProofKit
import Derived.OpenShut
import Derived.ShutString
import Derived.ChangeOld

/-
  Data that came in as an argument: what its reading says of the cells.
-/
namespace Go.Proofs.YtmpghgaijphniaaGreatDoor
open Go.ChangeShapes Go.WideShapes Go.ChangeAt Go.RowKit
set_option linter.unusedVariables false

theorem laidOut : laidOutB Tryz.prog = true := by kernel_rfl
theorem cells_ldm : Tryz.prog.cellsOf 36 = 3 := by kernel_rfl
theorem cells_int : Tryz.prog.cellsOf 3 = 1 := by kernel_rfl
theorem cells_str : Tryz.prog.cellsOf 9 = 1 := by kernel_rfl

set_option maxRecDepth 100000 in
theorem open_node {H : Type} {enc : TypeId × Value → H} {W : World} {n : Nat} {cs : List Value} {x : DataW H × List MemPlace} (hl : cs.length = 3) (h : DataW.trod enc Tryz.prog W 0 (fun _ => true) true n 36 cs = some x) :
    ∃ d : Dm, cs = dmL d ∧ d.t.size ≤ maxLen := by
  obtain ⟨y0, y1, y2, m, _, _, h0, h1, h2⟩ := Deep.trod_struct3 Tryz.underlying36 h
  obtain ⟨a, b, c, rfl⟩ : ∃ a b c, cs = [a, b, c] := by
    cases cs with
    | nil => cases hl
    | cons a cs => cases cs with
      | nil => cases hl
      | cons b cs => cases cs with
        | nil => cases hl
        | cons c cs => cases cs with
          | nil => exact ⟨a, b, c, rfl⟩
          | cons _ _ => simp at hl
  · have g0 : DataW.trod enc Tryz.prog W 0 (fun _ => true) true m 3 (([a, b, c].drop 0).take (Tryz.prog.cellsOf 3)) = some y0 := h0
    have g1 : DataW.trod enc Tryz.prog W 0 (fun _ => true) true m 9 (([a, b, c].drop 1).take (Tryz.prog.cellsOf 9)) = some y1 := h1
    have g2 : DataW.trod enc Tryz.prog W 0 (fun _ => true) true m 3 (([a, b, c].drop 2).take (Tryz.prog.cellsOf 3)) = some y2 := h2
    rw [cells_int] at g0 g2
    rw [cells_str] at g1
    obtain ⟨k, e0, _, _⟩ := DataW.trod_int Tryz.underlying3 g0
    obtain ⟨t, e1, _, ht⟩ := DataW.trod_string Tryz.underlying9 g1
    obtain ⟨u, e2, _, _⟩ := DataW.trod_int Tryz.underlying3 g2
    simp at e0 e1 e2
    exact ⟨⟨k, t, u⟩, by rw [e0, e1, e2]; rfl, ht⟩

set_option maxRecDepth 100000 in
theorem open_data {H : Type} {enc : TypeId × Value → H} {W : World} {base : Nat} {v : Value} {d : DataW H} {ps : List MemPlace} (hval : Value.okWide Tryz.prog W .any base 22 v) (h : DataW.Trod enc Tryz.prog W 0 (fun _ => true) true 22 v d ps) :
    ∃ l : List Dm, SlIn W v l ∧ (∀ i, i < l.length → (dt l i).size ≤ maxLen) ∧ l.length ≤ maxLen := by
  obtain ⟨a0, len, cap, rfl⟩ := okWide_slice Tryz.underlying22 hval
  obtain ⟨fuel, hf⟩ := h
  rcases Deep.open_slice Tryz.underlying22 hf with ⟨h1, _⟩ | ⟨a, len', cap', m, n, D, Pl, h1, hb, hl, hm, hmm, hx, hel⟩
  · refine ⟨[], .inl ⟨?_, rfl⟩, fun i hi => by simp at hi, by unfold maxLen; simp⟩
    simpa [Value.cells] using h1
  · have hs : Value.slice a0 len cap = .slice (some a) len' cap' := by simpa [Value.cells] using h1
    rw [hs]
    have hlm : len' ≤ m := by rw [hmm]; simp; exact hl
    have each : ∀ i, i < len' → ∃ d : Dm, W.cells? 0 (a.add (i * 3)) 3 = some (dmL d) ∧ d.t.size ≤ maxLen := fun i hi => by
      obtain ⟨cs', g1, g2⟩ := hel i (by omega)
      rw [cells_ldm] at g1
      obtain ⟨_, hlen, _⟩ := World.cells?_some g1
      obtain ⟨d, rfl, ht⟩ := open_node hlen g2
      exact ⟨d, g1, ht⟩
    obtain ⟨f, hfl⟩ := Deep.choose_lt each
    have hlen : ((List.range len').map f).length = len' := by simp
    have hget : ∀ i, i < len' → ((List.range len').map f).getD i default = f i := fun i hi => by simp [List.getD, hi]
    refine ⟨(List.range len').map f, .inr ⟨a, cap', by rw [hlen], fun i j v hi hv => ?_, fun h0 => ?_⟩, fun i hi => ?_, by rw [hlen]; omega⟩
    · rw [hlen] at hi
      rw [hget i hi] at hv
      obtain ⟨_, _, hc⟩ := World.cells?_some (hfl i hi).1
      have hj : j < 3 := by
        have := (List.getElem?_eq_some_iff.1 hv).1
        simpa [dmL] using this
      rw [hc j hj]
      exact hv
    · rw [hlen] at h0
      obtain ⟨_, _, hc⟩ := World.cells?_some (hfl 0 h0).1
      have h2 := hc 0 (by decide)
      have h3 : W.cell? ((a.add (0 * 3)).add 0) = some (.int .i64 (f 0).k) := by rw [h2]; rfl
      exact block_lt_of_cell (a := a) (by simpa [Addr.add] using h3)
    · rw [hlen] at hi
      unfold dt
      rw [hget i hi]
      exact (hfl i hi).2
end Go.Proofs.YtmpghgaijphniaaGreatDoor
