/-
  The texts DivideA, DivideB, ImplGcd, IsOneNat, one behind the other.
-/
import Derived.Test.YtkmjpebfaodfaaaDoorPkRead
import Derived.Test.YtkmjpebfaodfaaaDoorPkMinus
import Derived.Test.YtkmjpebfaodfaaaDoorPkHeld
import Derived.Test.YtkmjpebfaodfaaaDoorPkLehmer
import Derived.Test.YtkmjpebfaodfaaaDoorWhole

/-
  What divide of impl's nats answers, by a number of one part.
-/
namespace Go.Proofs.YtkmjpebfaodfaaaDoor
open Go.RowKit
set_option linter.unusedVariables false

end Go.Proofs.YtkmjpebfaodfaaaDoor

/-
  What divide of impl's nats answers, by a number of two parts or more.
-/
namespace Go.Proofs.YtkmjpebfaodfaaaDoor
open Go.RowKit
set_option linter.unusedVariables false

theorem Rep.cnt_le {n k m j : Nat} {p q : List Int} (h : Rep n k p) (g : Rep m j q) (hle : n ≤ m) : k ≤ j := by
  by_cases e : k ≤ j
  · exact e
  · have := g.cnt_lt h (by omega); omega

end Go.Proofs.YtkmjpebfaodfaaaDoor

/-
  What gcd of impl's nats and impl.GcdNat answer.
-/
namespace Go.Proofs.YtkmjpebfaodfaaaDoor
open Go.RowKit
set_option linter.unusedVariables false

theorem Rep.zero_iff {n k : Nat} {p : List Int} (h : Rep n k p) : k = 0 ↔ n = 0 := by
  constructor
  · intro e
    have h1 := h.lt
    subst e
    simp at h1; omega
  · intro e
    subst e
    by_cases hk : k = 0
    · exact hk
    · have h1 := h.ge (by omega)
      have : (0 : Int) < 1000000 ^ (k - 1) := Int.pow_pos (by omega)
      omega

end Go.Proofs.YtkmjpebfaodfaaaDoor

/-
  What isOne of impl's nats answers.
-/
namespace Go.Proofs.YtkmjpebfaodfaaaDoor
open Go.RowKit
set_option linter.unusedVariables false

theorem Rep.one_iff {n k : Nat} {p : List Int} (h : Rep n k p) : (k = 1 ∧ p.getD 0 0 = 1) ↔ n = 1 := by
  have hp := h.len
  constructor
  · rintro ⟨rfl, h1⟩
    have hv := h.val
    rw [vb_split 1000000 p 1 (by omega), vb_zero _ (p.drop 1) (fun i => by rw [getD_drop]; exact h.out _ (by omega))] at hv
    have : p.take 1 = [1] := by
      cases p with
      | nil => simp at hp
      | cons x p => simp at h1; simp [h1]
    rw [this] at hv; simp [vb] at hv; omega
  · rintro rfl
    have hk : k = 1 := by
      have h0 : k ≠ 0 := fun e => by have := h.zero_iff.1 e; omega
      by_cases e : k = 1
      · exact e
      · have h2 := h.ge (by omega)
        have h3 : (1000000 : Int) ^ 1 ≤ 1000000 ^ (k - 1) := ipow_le (by omega)
        simp at h3; omega
    subst hk
    refine ⟨rfl, ?_⟩
    have hv := h.val
    rw [vb_split 1000000 p 1 (by omega), vb_zero _ (p.drop 1) (fun i => by rw [getD_drop]; exact h.out _ (by omega))] at hv
    have : p.take 1 = [p.getD 0 0] := by
      cases p with
      | nil => simp at hp
      | cons x p => simp
    rw [this] at hv; simp [vb] at hv
    simpa using hv

end Go.Proofs.YtkmjpebfaodfaaaDoor
