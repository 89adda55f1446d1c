/-
  How many parts a product has: plain facts.
-/
import Derived.Test.YteihephciiifbaaRep
namespace Go.Proofs.Yteihephciiifbaa
set_option linter.unusedVariables false

theorem Rep.ltN {n k : Nat} {p : List Int} (h : Rep n k p) : n < 1000000 ^ k := by
  have h1 := h.lt
  rw [show (1000000 : Int) ^ k = ((1000000 ^ k : Nat) : Int) by rw [Int.natCast_pow]; rfl] at h1
  exact Int.ofNat_lt.1 h1
theorem Rep.geN {n k : Nat} {p : List Int} (h : Rep n k p) (hk : 0 < k) : 1000000 ^ (k - 1) ≤ n := by
  have h1 := h.ge hk
  rw [show (1000000 : Int) ^ (k - 1) = ((1000000 ^ (k - 1) : Nat) : Int) by rw [Int.natCast_pow]; rfl] at h1
  exact Int.ofNat_le.1 h1
theorem mul_cnt {B n m k j i : Nat} (hB : 1 ≤ B) (hn : n < B ^ k) (hm : m < B ^ j) (hi : B ^ (i - 1) ≤ n * m) : i ≤ k + j := by
  by_cases h : i ≤ k + j
  · exact h
  · have h1 : B ^ (k + j) ≤ B ^ (i - 1) := Nat.pow_le_pow_right hB (by omega)
    have h2 : n * m < B ^ (k + j) := by rw [Nat.pow_add]; exact Nat.mul_lt_mul'' hn hm
    omega
theorem Rep.mul_used {n m k j i : Nat} {p q r : List Int} (hP : Rep n k p) (hQ : Rep m j q) (hR : Rep (n * m) i r) : i ≤ k + j := by
  by_cases h : 0 < i
  · exact mul_cnt (by decide) hP.ltN hQ.ltN (hR.geN h)
  · omega
end Go.Proofs.Yteihephciiifbaa
