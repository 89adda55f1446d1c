/-
  The texts ImplTwo2, ImplMany, ImplNear, one behind the other.
-/
import Derived.Test.YtfdlncaplalenaaDoorImplTwo
import Derived.Test.YtfdlncaplalenaaDoorPkDivideA
import Derived.Test.YtfdlncaplalenaaDoorRealMath

/-
  What twoTo of impl answers.
-/
namespace Go.Proofs.YtfdlncaplalenaaDoor
open Go.RowKit
set_option linter.unusedVariables false

theorem shl_exec {o : Oper} {a : Act} {x y : Operand} {t : TypeId} (ho : o.op = .binOp .shl 3 x y 3) (hx : a.eval x = .int .i64 1) {s : Nat} {z : Int} (hy : a.eval y = .int .i64 z) (hz : z = (s : Int)) (hs : s ≤ 19) (w : World) : (execOp a.eval o).run Tryd.prog w = .ok (.value (.int .i64 ((2 ^ s : Nat) : Int))) w := by
  subst hz
  unfold execOp
  simp only [ho, hx, hy]
  have : s = 0 ∨ s = 1 ∨ s = 2 ∨ s = 3 ∨ s = 4 ∨ s = 5 ∨ s = 6 ∨ s = 7 ∨ s = 8 ∨ s = 9 ∨ s = 10 ∨ s = 11 ∨ s = 12 ∨ s = 13 ∨ s = 14 ∨ s = 15 ∨ s = 16 ∨ s = 17 ∨ s = 18 ∨ s = 19 := by omega
  rcases this with rfl | rfl | rfl | rfl | rfl | rfl | rfl | rfl | rfl | rfl | rfl | rfl | rfl | rfl | rfl | rfl | rfl | rfl | rfl | rfl <;> rfl
theorem two_lt_ten (j e : Nat) (hj : j ≤ 2 * e) (he : e ≠ 0) : 2 ^ j < 10 ^ e := by
  have h1 : 2 ^ j ≤ 2 ^ (2 * e) := Nat.pow_le_pow_right (by decide) hj
  rw [Nat.pow_mul] at h1
  exact Nat.lt_of_le_of_lt h1 (Nat.pow_lt_pow_left (by decide) he)
theorem two_lt (j : Nat) (hj : j ≤ 1200) : 2 ^ j < 10 ^ 600 := two_lt_ten j 600 (by omega) (by decide)
theorem two_up {N g T : Nat} (hg : g ≤ N) (hT : T ≤ g) : 2 ^ T * 2 ^ (N - g) + 0 = 2 ^ (N - (g - T)) := by
  rw [Nat.add_zero, ← Nat.pow_add]; congr 1; omega
theorem two_small (T : Nat) (hT : T ≤ 19) : 0 < ((2 ^ T : Nat) : Int) ∧ ((2 ^ T : Nat) : Int) ≤ 1000000 := by
  have h1 : 2 ^ T ≤ 2 ^ 19 := Nat.pow_le_pow_right (by decide) hT
  have h2 : 0 < 2 ^ T := Nat.two_pow_pos T
  have h3 : (2 : Nat) ^ 19 = 524288 := by decide
  omega

end Go.Proofs.YtfdlncaplalenaaDoor

/-
  What manyTwos of impl answers.
-/
namespace Go.Proofs.YtfdlncaplalenaaDoor
open Go.RowKit
set_option linter.unusedVariables false

theorem cmpI_nat (a b : Nat) : cmpI (a : Int) (b : Int) = cmpN a b := by
  unfold cmpI cmpN
  by_cases h1 : a < b
  · rw [if_pos h1, if_pos (by omega)]
  · by_cases h2 : a = b
    · rw [if_neg h1, if_pos h2, if_neg (by omega), if_neg (by omega)]
    · rw [if_neg h1, if_neg h2, if_neg (by omega), if_pos (by omega)]
theorem Rep.cnt_le' {n k m j : Nat} {p q : List Int} (h : Rep n k p) (g : Rep m j q) (hle : n ≤ m) : k ≤ j := by
  rcases Nat.lt_or_ge j k with h1 | h1
  · have := g.cnt_lt h h1
    omega
  · exact h1

end Go.Proofs.YtfdlncaplalenaaDoor

/-
  What nearestRank of impl answers: the rank of the nearest real.
-/
namespace Go.Proofs.YtfdlncaplalenaaDoor
open Go.RowKit
set_option linter.unusedVariables false

theorem qk_lt_pow {N D k : Nat} (a : Nat) (hN : N < 2 ^ a) (hD : 0 < D) (hk : a + 150 ≤ k + 53) : qk N D k < 9007199254740992 := by
  unfold qk
  rw [Nat.div_lt_iff_lt_mul (Nat.mul_pos hD (Nat.two_pow_pos k))]
  have h1 : N * 2 ^ 150 < 2 ^ a * 2 ^ 150 := Nat.mul_lt_mul_of_pos_right hN (Nat.two_pow_pos _)
  have h2 : 2 ^ a * 2 ^ 150 ≤ 2 ^ 53 * 2 ^ k := by
    rw [← Nat.pow_add, ← Nat.pow_add]
    exact Nat.pow_le_pow_right (by decide) (by omega)
  have h3 : (2 : Nat) ^ 53 = 9007199254740992 := by decide
  rw [h3] at h2
  have h4 : 9007199254740992 * 2 ^ k ≤ 9007199254740992 * (D * 2 ^ k) := Nat.mul_le_mul_left _ (Nat.le_mul_of_pos_left _ hD)
  omega
/-- There is one that fits. -/
theorem fit_exists {N D : Nat} : ∀ b : Nat, qk N D b < 9007199254740992 → ∃ E, E ≤ b ∧ Fit N D E
  | 0, h => ⟨0, Nat.le_refl _, h, .inr rfl⟩
  | b + 1, h => by
    by_cases h1 : qk N D b < 9007199254740992
    · obtain ⟨E, hE, hf⟩ := fit_exists b h1
      exact ⟨E, by omega, hf⟩
    · refine ⟨b + 1, Nat.le_refl _, h, .inl ?_⟩
      rw [qk_succ]
      omega
theorem Fit.up {N D E K : Nat} (h : Fit N D E) (hK : 9007199254740992 ≤ qk N D K) : K < E := by
  rcases Nat.lt_or_ge K E with h1 | h1
  · exact h1
  · have := qk_anti (N := N) (D := D) h1
    have := h.1
    omega
theorem Fit.down {N D E K : Nat} (h : Fit N D E) (hK : qk N D K < 4503599627370496) (h0 : 0 < K) : E < K := by
  rcases Nat.lt_or_ge E K with h1 | h1
  · exact h1
  · have := qk_anti (N := N) (D := D) h1
    rcases h.2 with h2 | h2 <;> omega
theorem rep_lead {n k : Nat} {p : List Int} (h : Rep n k p) (hn : n < 9007199254740992) : (p.getD (0 + 2) 0 * 1000000 + p.getD (0 + 1) 0) * 1000000 + p.getD 0 0 = (n : Int) := by
  have hk : k ≤ 3 := by
    rcases Nat.lt_or_ge 3 k with h1 | h1
    · have h2 := h.geN (by omega)
      have h3 : 1000000 ^ 3 ≤ 1000000 ^ (k - 1) := Nat.pow_le_pow_right (by decide) (by omega)
      have h4 : (1000000 : Nat) ^ 3 = 1000000000000000000 := by decide
      omega
    · exact h1
  obtain ⟨N', h0, h1, h2⟩ := lead_split h 0 (by omega) (by omega)
  simp at h1 h2 ⊢
  omega
theorem cmpN_neg {a b : Nat} (h : a < b) : cmpN a b = -1 := by unfold cmpN; rw [if_pos h]
theorem cmpN_ge {a b : Nat} (h : b ≤ a) : 0 ≤ cmpN a b := by unfold cmpN; rw [if_neg (by omega)]; split <;> omega
theorem cmpN_lt {a b : Nat} : cmpN a b < 0 ↔ a < b := by
  unfold cmpN
  split
  · omega
  · split <;> omega
theorem near_zero (m : Nat) (hm : m ≠ 0) : Near 0 m 0 := by
  refine ⟨0, ⟨?_, .inr rfl⟩, ?_⟩
  · unfold qk; simp
  · have h1 : qk 0 m 0 = 0 := by unfold qk; simp
    have h2 : ck 0 m 0 = -1 := by
      unfold ck rk
      rw [Nat.zero_mul, Nat.zero_mod, Nat.mul_zero, Nat.pow_zero, Nat.mul_one]
      exact cmpN_neg (Nat.pos_of_ne_zero hm)
    unfold manR
    rw [h1, h2]
    rfl

end Go.Proofs.YtfdlncaplalenaaDoor
