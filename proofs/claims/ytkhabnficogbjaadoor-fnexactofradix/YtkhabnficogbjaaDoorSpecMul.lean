/-
  What spec.l1Mul and spec.MulNat answer.
-/
import Derived.Test.YtkhabnficogbjaaDoorSpecSub
import Derived.Test.YtkhabnficogbjaaDoorTimes
import Derived.Deep.OwnRows
namespace Go.Proofs.YtkhabnficogbjaaDoor
open Go.RowKit
set_option linter.unusedVariables false

theorem info_int : (Tryd.prog.info? 3).map (fun i => (i.zero, i.size, i.bytes)) = some (some (.int .i64 0), 1, 8) := by kernel_rfl

theorem made_zeros (z : Value) (n : Nat) : (madeCells #[z] n).toList = List.replicate n z := by
  apply List.ext_getElem
  · simp [madeCells]
  · intro i h1 h2
    simp [madeCells, Nat.mod_one]

theorem made_own (w : World) (B n : Nat) (hB : B ≤ w.heap.size) (hn : n ≤ maxLen) : (w.alloc (.cells (madeCells #[.int .i64 0] n) 3)).ownsRow B 3 1 (.slice (some ⟨w.heap.size, 0, none⟩) n n) n (ints (List.replicate n 0)) := by
  refine ⟨by simp [ints], .inr ⟨w.heap.size, n, _, rfl, hB, (Array.getElem?_push_size (xs := w.heap) (x := .cells (madeCells #[.int .i64 0] n) 3)), Nat.le_refl _, hn, by simp [size_madeCells], ?_⟩⟩
  rw [made_zeros]
  simp [ints]

theorem own_lt {w : World} {B g n c : Nat} {l : List Int} (h : w.ownsRow B 3 1 (.slice (some ⟨g, 0, none⟩) n c) n (ints l)) (hn : 0 < n) : B ≤ w.heap.size := by
  obtain ⟨g', c', e, h1, h2, _⟩ := own_form h hn
  omega

theorem zeros_get (n : Nat) : ∀ x, (List.replicate n (0 : Int)).getD x 0 = 0 := by
  intro x
  simp only [List.getD, List.getElem?_replicate]
  split <;> rfl

theorem mul_lt_pow (k j : Nat) {a b : Nat} (ha : a < 10 ^ k) (hb : b < 10 ^ j) : a * b < 10 ^ (k + j) := by
  rw [Nat.pow_add]
  exact Nat.mul_lt_mul'' ha hb

end Go.Proofs.YtkhabnficogbjaaDoor
