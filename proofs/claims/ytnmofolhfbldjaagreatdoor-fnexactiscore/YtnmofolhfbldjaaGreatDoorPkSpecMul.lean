/-
  The texts SpecMul, SpecPow, one behind the other.
-/
import Derived.Test.YtnmofolhfbldjaaGreatDoorL1In
import Derived.Test.YtnmofolhfbldjaaGreatDoorPkSpecSub
import Derived.Test.YtnmofolhfbldjaaGreatDoorPkMinus
import Derived.Deep.OwnRows
import Derived.Test.YtnmofolhfbldjaaGreatDoorPkGood

/-
  What spec.l1Mul and spec.MulNat answer.
-/
namespace Go.Proofs.YtnmofolhfbldjaaGreatDoor
open Go.RowKit
set_option linter.unusedVariables false

theorem info_int : (Tryz.prog.info? 3).map (fun i => (i.zero, i.size, i.bytes)) = some (some (.int .i64 0), 1, 8) := by kernel_rfl

theorem made_zeros (z : Value) (n : Nat) : (madeCells #[z] n).toList = List.replicate n z := by
  apply List.ext_getElem
  · simp [madeCells]
  · intro i h1 h2
    simp [madeCells, Nat.mod_one]

theorem made_own (w : World) (B n : Nat) (hB : B ≤ w.heap.size) (hn : n ≤ maxLen) : (w.alloc (.cells (madeCells #[.int .i64 0] n) 3)).ownsRow B 3 1 (.slice (some ⟨w.heap.size, 0, none⟩) n n) n (ints (List.replicate n 0)) := by
  refine ⟨by simp [ints], .inr ⟨w.heap.size, n, _, rfl, hB, (Array.getElem?_push_size (xs := w.heap) (x := .cells (madeCells #[.int .i64 0] n) 3)), Nat.le_refl _, hn, by simp [size_madeCells], ?_⟩⟩
  rw [made_zeros]
  simp [ints]

theorem own_lt {w : World} {B g n c : Nat} {l : List Int} (h : w.ownsRow B 3 1 (.slice (some ⟨g, 0, none⟩) n c) n (ints l)) (hn : 0 < n) : B ≤ w.heap.size := by
  obtain ⟨g', c', e, h1, h2, _⟩ := own_form h hn
  omega

theorem zeros_get (n : Nat) : ∀ x, (List.replicate n (0 : Int)).getD x 0 = 0 := by
  intro x
  simp only [List.getD, List.getElem?_replicate]
  split <;> rfl

theorem mul_lt_pow (k j : Nat) {a b : Nat} (ha : a < 10 ^ k) (hb : b < 10 ^ j) : a * b < 10 ^ (k + j) := by
  rw [Nat.pow_add]
  exact Nat.mul_lt_mul'' ha hb

end Go.Proofs.YtnmofolhfbldjaaGreatDoor

/-
  What spec.PowNat answers.
-/
namespace Go.Proofs.YtnmofolhfbldjaaGreatDoor
open Go.RowKit
set_option linter.unusedVariables false

/-- May a be raised to n? -/
def powOk (a : ByteArray) (n : Int) : Bool := goodB a.data.toList && (decide (0 ≤ n) && decide (n ≤ 2000))

theorem Tells.big {n m : Nat} {e : Ending} (h : Tells n e) (hn : ¬ n < 10 ^ 600) (hm : ¬ m < 10 ^ 600) : Tells m e := by
  obtain ⟨s, rfl, h1, h2⟩ := h
  have := h2 hn
  subst this
  exact ⟨⟨#[]⟩, by rw [decide_eq_false hn, decide_eq_false hm], fun h => absurd h hm, fun _ => rfl⟩

theorem pow_zero_of {A j N : Nat} (h : A ^ j = 0) (hj : j ≤ N) : A ^ N = 0 := by
  have hA : A = 0 ∧ j ≠ 0 := by
    by_cases hA : A = 0
    · refine ⟨hA, fun e => ?_⟩
      subst e; simp at h
    · have := Nat.pow_pos (n := j) (Nat.pos_of_ne_zero hA); omega
  obtain ⟨rfl, hj0⟩ := hA
  exact Nat.zero_pow (by omega)

theorem pow_big_of {A j N : Nat} (B : Nat) (hB : 1 < B) (h : ¬ A ^ j < B) (hj : j ≤ N) : ¬ A ^ N < B := by
  by_cases hA : A = 0
  · subst hA
    by_cases e : j = 0
    · subst e
      simp only [Nat.pow_zero] at h
      by_cases e' : N = 0
      · subst e'; simpa using h
      · omega
    · rw [Nat.zero_pow (by omega)] at h; omega
  · have := Nat.pow_le_pow_right (Nat.pos_of_ne_zero hA) hj
    omega

theorem one_lt_ten (k : Nat) (hk : k ≠ 0) : 1 < 10 ^ k := Nat.one_lt_pow hk (by decide)

theorem pow_tells {A j N : Nat} {e : Ending} (hT : Tells (A ^ j) e) (hj : j ≤ N) (h : j = N ∨ A ^ j = 0 ∨ ¬ A ^ j < 10 ^ 600 ∨ A = 1) : Tells (A ^ N) e := by
  rcases h with rfl | h | h | rfl
  · exact hT
  · rw [pow_zero_of h hj]; rw [h] at hT; exact hT
  · by_cases hA : ¬ A ^ N < 10 ^ 600
    · exact hT.big h hA
    · exact absurd (Decidable.not_not.1 hA) (pow_big_of _ (one_lt_ten 600 (by decide)) h hj)
  · simpa using hT

end Go.Proofs.YtnmofolhfbldjaaGreatDoor
