/-
  Heaps that are answers: what the laws' own helpers over them say.
-/
import Derived.Test.YtelciainidklgaaDoorHeapLaw
import Derived.Test.YtelciainidklgaaDoorSpecReach
namespace Go.Proofs.YtelciainidklgaaDoor
open Go.RowKit
set_option linter.unusedVariables false

/-- Nothing that lay is turned but for two blocks. -/
structure OnlyTwo (w w' : World) (r1 r2 : Option Nat) : Prop where
  os : w'.os = w.os
  tape : w'.tape = w.tape
  output : w'.output = w.output
  size : w.heap.size ≤ w'.heap.size
  block : ∀ k, k < w.heap.size → some k ≠ r1 → some k ≠ r2 → w'.heap[k]? = w.heap[k]?
theorem OnlyTwo.below {B : Nat} {a w w' : World} {r1 r2 : Option Nat} (h : Below B a w) (hg : OnlyTwo w w' r1 r2) (hB : B ≤ w.heap.size) (h1 : ∀ k, r1 = some k → B ≤ k) (h2 : ∀ k, r2 = some k → B ≤ k) : Below B a w' :=
  h.trans ⟨hg.os, hg.tape, hg.output, hg.size, fun k hk => hg.block k (by omega) (fun e => by have := h1 k e.symm; omega) (fun e => by have := h2 k e.symm; omega)⟩
theorem OnlyTwo.own {w w' : World} {r1 r2 : Option Nat} {B n s : Nat} {T : TypeId} {v : Value} {xs : List Value} (hg : OnlyTwo w w' r1 r2) (h : w.ownsRow B T s v n xs) (h1 : ∀ g, v.ownBlock = some g → some g ≠ r1 ∧ some g ≠ r2) : w'.ownsRow B T s v n xs := by
  refine ⟨h.1, h.2.imp id fun ⟨g, cap, cur, e, h2, h3, h4⟩ => ⟨g, cap, cur, e, h2, ?_, h4⟩⟩
  have hb := h1 g (by rw [e]; rfl)
  rw [hg.block g (Array.getElem?_eq_some_iff.1 h3).1 hb.1 hb.2]; exact h3
theorem OnlyTwo.row {w w' : World} {r1 r2 : Option Nat} {b : Nat} {t : TypeId} {cs : Array Value} (hg : OnlyTwo w w' r1 r2) (h : RowAt w b t cs) (h1 : some b ≠ r1) (h2 : some b ≠ r2) : RowAt w' b t cs := by
  unfold RowAt; rw [hg.block b h.lt h1 h2]; exact h

end Go.Proofs.YtelciainidklgaaDoor
