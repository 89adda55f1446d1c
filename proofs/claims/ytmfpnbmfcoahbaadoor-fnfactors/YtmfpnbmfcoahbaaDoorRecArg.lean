/-
  Rows of records that came in as arguments: what their reading says of the cells.
-/
import Derived.Test.YtmfpnbmfcoahbaaDoorRecs
import Derived.Deep.Strs
import Derived.Carry
import Derived.WalkKit
import Derived.ProofKit
import Derived.OpenShut
import Derived.ShutString
import Derived.ChangeOld
namespace Go.Proofs.YtmfpnbmfcoahbaaDoor
open Go.ChangeShapes Go.WideShapes Go.ChangeAt Go.RowKit
set_option linter.unusedVariables false

theorem laidOutR : laidOutB Tryd.prog = true := by kernel_rfl

theorem cell_block {w : World} {a : Addr} {v : Value} (h : w.cell? a = some v) : a.block < w.heap.size := by
  rcases Nat.lt_or_ge a.block w.heap.size with h1 | h1
  · exact h1
  · have h2 : w.heap[a.block]? = none := Array.getElem?_eq_none h1
    simp [World.cell?, h2] at h

/-- A slice of records, out of what each record's reading says. -/
theorem open_recs {H : Type} {enc : TypeId × Value → H} {W : World} {X : Type} [Inhabited X] (f : X → List Value) (c : Nat) (hc0 : 0 < c) (hc : ∀ x, (f x).length = c) (Q : X → Prop) {t e : TypeId} (ht : Tryd.prog.underlying t = some (.slice e)) (hce : Tryd.prog.cellsOf e = c)
    (each : ∀ (n : Nat) (cs : List Value) (x : DataW H × List MemPlace), cs.length = c → DataW.trod enc Tryd.prog W 0 (fun _ => true) true n e cs = some x → ∃ d : X, cs = f d ∧ Q d)
    {fuel : Nat} {cs : List Value} {x : DataW H × List MemPlace} (h : DataW.trod enc Tryd.prog W 0 (fun _ => true) true fuel t cs = some x) :
    ∃ (v : Value) (l : List X), cs = [v] ∧ SlR W v f c l ∧ (∀ i, i < l.length → Q (l.getD i default)) ∧ l.length ≤ maxLen := by
  rcases Deep.open_slice ht h with ⟨h1, _⟩ | ⟨a, len', cap', m, n, D, Pl, h1, hb, hl, hm, hmm, hx, hel⟩
  · exact ⟨.slice none 0 0, [], h1, .inl ⟨rfl, rfl⟩, fun i hi => by simp at hi, by unfold maxLen; simp⟩
  · have hlm : len' ≤ m := by rw [hmm]; simp; exact hl
    have each' : ∀ i, i < len' → ∃ d : X, W.cells? 0 (a.add (i * c)) c = some (f d) ∧ Q d := fun i hi => by
      obtain ⟨cs', g1, g2⟩ := hel i (by omega)
      rw [hce] at g1
      obtain ⟨_, hlen, _⟩ := World.cells?_some g1
      obtain ⟨d, rfl, ht⟩ := each _ _ _ hlen g2
      exact ⟨d, g1, ht⟩
    obtain ⟨g, hfl⟩ := Deep.choose_lt each'
    have hlen : ((List.range len').map g).length = len' := by simp
    have hget : ∀ i, i < len' → ((List.range len').map g).getD i default = g i := fun i hi => by simp [List.getD, hi]
    refine ⟨_, (List.range len').map g, h1, .inr ⟨a, cap', by rw [hlen], fun i j v hi hv => ?_, fun h0 => ?_⟩, fun i hi => ?_, by rw [hlen]; omega⟩
    · rw [hlen] at hi
      rw [hget i hi] at hv
      obtain ⟨_, _, hcc⟩ := World.cells?_some (hfl i hi).1
      have hj : j < c := by
        have := (List.getElem?_eq_some_iff.1 hv).1
        rw [hc] at this
        exact this
      rw [hcc j hj]
      exact hv
    · rw [hlen] at h0
      obtain ⟨_, _, hcc⟩ := World.cells?_some (hfl 0 h0).1
      have h2 := hcc 0 hc0
      have h3 : (f (g 0))[0]? = some ((f (g 0))[0]'(by rw [hc]; exact hc0)) := List.getElem?_eq_getElem _
      rw [h3] at h2
      have := cell_block h2
      simpa [Addr.add] using this
    · rw [hlen] at hi
      rw [hget i hi]
      exact (hfl i hi).2
theorem cells_strR : Tryd.prog.cellsOf 9 = 1 := by kernel_rfl
theorem cells_intR : Tryd.prog.cellsOf 3 = 1 := by kernel_rfl
theorem cells_boolR : Tryd.prog.cellsOf 4 = 1 := by kernel_rfl
end Go.Proofs.YtmfpnbmfcoahbaaDoor
