/-
  Factors by trying, as both loops do it: plain facts.
-/
import Derived.Test.YtmfpnbmfcoahbaaDoorPkMath
namespace Go.Proofs.YtmfpnbmfcoahbaaDoor
set_option linter.unusedVariables false

/-- q is divided out of n as often as it goes. -/
def inn (q n : Nat) : List Nat × Nat :=
  if h : 2 ≤ q ∧ 0 < n ∧ n % q = 0 then (q :: (inn q (n / q)).1, (inn q (n / q)).2) else ([], n)
termination_by n
decreasing_by all_goals exact Nat.div_lt_self h.2.1 (by omega)
theorem inn_yes {q n : Nat} (h : 2 ≤ q) (h0 : 0 < n) (hd : n % q = 0) : inn q n = (q :: (inn q (n / q)).1, (inn q (n / q)).2) := by
  rw [inn, dif_pos ⟨h, h0, hd⟩]
theorem inn_no {q n : Nat} (hd : n % q ≠ 0) : inn q n = ([], n) := by
  rw [inn, dif_neg (fun h => hd h.2.2)]
theorem inn_le (q : Nat) : ∀ n, (inn q n).2 ≤ n := by
  intro n
  induction n using Nat.strongRecOn with
  | _ n ih =>
    by_cases h : 2 ≤ q ∧ 0 < n ∧ n % q = 0
    · rw [inn_yes h.1 h.2.1 h.2.2]
      have := ih (n / q) (Nat.div_lt_self h.2.1 (by omega))
      exact Nat.le_trans this (Nat.div_le_self _ _)
    · rw [inn, dif_neg h]; exact Nat.le_refl _
/-- All factors from q on. -/
def fac (q n : Nat) : List Nat :=
  if h : 2 ≤ q ∧ q * q ≤ n then (inn q n).1 ++ fac (q + 1) (inn q n).2 else if 1 < n then [n] else []
termination_by n - q
decreasing_by
  have h1 := inn_le q n
  have h2 : q * 2 ≤ q * q := Nat.mul_le_mul_left _ h.1
  have := h.1
  have := h.2
  omega
theorem fac_yes {q n : Nat} (h : 2 ≤ q) (hq : q * q ≤ n) : fac q n = (inn q n).1 ++ fac (q + 1) (inn q n).2 := by
  rw [fac, dif_pos ⟨h, hq⟩]
theorem fac_no {q n : Nat} (hq : ¬ q * q ≤ n) : fac q n = if 1 < n then [n] else [] := by
  rw [fac, dif_neg (fun h => hq h.2)]
theorem half_div {q n k N : Nat} (hq : 2 ≤ q) (h : 2 ^ k * n ≤ N) : 2 ^ (k + 1) * (n / q) ≤ N := by
  have h1 : n / q * q ≤ n := Nat.div_mul_le_self n q
  have h2 : n / q * 2 ≤ n / q * q := Nat.mul_le_mul_left _ hq
  have h3 : 2 ^ k * (n / q * 2) ≤ 2 ^ k * n := Nat.mul_le_mul_left _ (Nat.le_trans h2 h1)
  rw [Nat.pow_succ, Nat.mul_assoc, Nat.mul_comm 2 (n / q)]
  omega
theorem few {k n N : Nat} (h : 2 ^ k * n ≤ N) (hn : 0 < n) (hN : N ≤ 1000000000000) : k ≤ 40 := by
  rcases Nat.lt_or_ge 40 k with h1 | h1
  · have h2 : 2 ^ 41 ≤ 2 ^ k := Nat.pow_le_pow_right (by decide) h1
    have h3 : 2 ^ k * 1 ≤ 2 ^ k * n := Nat.mul_le_mul_left _ hn
    have h4 : (2 : Nat) ^ 41 = 2199023255552 := by decide
    omega
  · exact h1
theorem root_6 {q n : Nat} (h : q * q ≤ n) (hn : n ≤ 1000000000000) : q ≤ 1000000 := by
  rcases Nat.lt_or_ge 1000000 q with h1 | h1
  · have := Nat.mul_le_mul h1 h1; omega
  · exact h1
theorem div_pos_of {q n : Nat} (hq : 2 ≤ q) (h0 : 0 < n) (hd : n % q = 0) : 0 < n / q := by
  rcases Nat.eq_zero_or_pos (n / q) with h | h
  · have := Nat.div_add_mod n q; rw [h, hd] at this; omega
  · exact h
end Go.Proofs.YtmfpnbmfcoahbaaDoor
