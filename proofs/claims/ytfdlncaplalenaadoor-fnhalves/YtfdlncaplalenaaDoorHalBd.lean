/-
  How many products multiplying by halves makes directly, at most.
-/
import Derived.Test.YtfdlncaplalenaaDoorImplHal
namespace Go.Proofs.YtfdlncaplalenaaDoor
open Go.RowKit
set_option linter.unusedVariables false

theorem Hal.pos {l A B c : Nat} (h : Hal l A B c) : 1 ≤ c := by
  induction h with
  | one => exact Nat.le_refl _
  | more _ _ _ _ _ _ _ i2 i0 i1 => omega
theorem LenH.is1 {n L : Nat} (h : LenH n L) (hn : n < 10) : L = 1 :=
  h.one ⟨Nat.le_refl _, by omega, fun h => by simp; omega, fun _ => rfl⟩
theorem LenH.is2 {n L : Nat} (h : LenH n L) (h1 : 10 ≤ n) (hn : n < 100) : L = 2 :=
  h.one ⟨by decide, by omega, fun h => by simp; omega, fun _ => by omega⟩
theorem LenH.is3 {n L : Nat} (h : LenH n L) (h1 : 100 ≤ n) (hn : n < 1000) : L = 3 :=
  h.one ⟨by decide, by omega, fun h => by simp; omega, fun _ => by omega⟩
theorem LenH.upto {n L k : Nat} (h : LenH n L) (hk : 1 ≤ k) (hn : n < 10 ^ k) : L ≤ k := LenH.le h hk hn
theorem hal9 {l A B c : Nat} (hl : 1 ≤ l) (h : Hal l A B c) (hs : A < 10 ∨ B < 10) : c = 1 := by
  cases h with
  | one => rfl
  | more ha hb hno _ _ _ _ =>
    exfalso
    rcases hs with hs | hs
    · have := ha.is1 hs; omega
    · have := hb.is1 hs; omega
theorem hal18 {l A B c : Nat} (hl : 1 ≤ l) (h : Hal l A B c) (hA : A ≤ 18) (hB : B ≤ 18) : c ≤ 3 := by
  by_cases hs : A < 10 ∨ B < 10
  · rw [hal9 hl h hs]; decide
  · cases h with
    | one => decide
    | more ha hb hno hm h2 h0 h1 =>
      have ea := ha.is2 (by omega) (by omega)
      have eb := hb.is2 (by omega) (by omega)
      subst ea eb
      subst hm
      rw [show (10 : Nat) ^ ((max 2 2 + 1) / 2) = 10 by decide] at h2 h0 h1
      have e2 := hal9 hl h2 (.inl (by omega))
      have e0 := hal9 hl h0 (.inl (by omega))
      have e1 := hal9 hl h1 (.inl (by omega))
      omega
theorem hal99 {l A B c : Nat} (hl : 1 ≤ l) (h : Hal l A B c) (hA : A < 100) (hB : B < 100) : c ≤ 5 := by
  by_cases hs : A < 10 ∨ B < 10
  · rw [hal9 hl h hs]; decide
  · cases h with
    | one => decide
    | more ha hb hno hm h2 h0 h1 =>
      have ea := ha.is2 (by omega) (by omega)
      have eb := hb.is2 (by omega) (by omega)
      subst ea eb
      subst hm
      rw [show (10 : Nat) ^ ((max 2 2 + 1) / 2) = 10 by decide] at h2 h0 h1
      have e2 := hal9 hl h2 (.inl (by omega))
      have e0 := hal9 hl h0 (.inl (by omega))
      have e1 := hal18 hl h1 (by omega) (by omega)
      omega
/-- Halves of numbers of three digits at most, one of which has three. -/
theorem hal_three {l A B c : Nat} (hl : 1 ≤ l) (h : Hal l A B c) (hA : A < 1000) (hB : B < 1000) (hs : ¬ (A < 100 ∧ B < 100)) : c = 1 ∨ ∃ c2 c0 c1, c = c2 + c1 + c0 ∧ Hal l (A / 100) (B / 100) c2 ∧ Hal l (A % 100) (B % 100) c0 ∧ Hal l (A / 100 + A % 100) (B / 100 + B % 100) c1 := by
  cases h with
  | one => exact .inl rfl
  | @more _ _ a b m c2 c1 c0 ha hb hno hm h2 h0 h1 =>
    have ua := ha.upto (by decide : 1 ≤ 3) (by omega)
    have ub := hb.upto (by decide : 1 ≤ 3) (by omega)
    have hab : a = 3 ∨ b = 3 := by
      by_cases h1 : A < 100
      · exact .inr (hb.is3 (by omega) hB)
      · exact .inl (ha.is3 (by omega) hA)
    have em : m = 2 := by omega
    subst em
    rw [show (10 : Nat) ^ 2 = 100 by decide] at h2 h0 h1
    exact .inr ⟨c2, c0, c1, rfl, h2, h0, h1⟩
theorem hal108 {l A B c : Nat} (hl : 1 ≤ l) (h : Hal l A B c) (hA : A ≤ 108) (hB : B ≤ 108) : c ≤ 5 := by
  by_cases hs : A < 100 ∧ B < 100
  · exact hal99 hl h hs.1 hs.2
  · rcases hal_three hl h (by omega) (by omega) hs with e | ⟨c2, c0, c1, e, h2, h0, h1⟩
    · omega
    · have e2 := hal9 hl h2 (.inl (by omega))
      by_cases hA1 : A < 100
      · have e0 := hal9 hl h0 (.inr (by omega))
        have e1 := hal9 hl h1 (.inr (by omega))
        omega
      · have e0 := hal9 hl h0 (.inl (by omega))
        have e1 := hal9 hl h1 (.inl (by omega))
        omega
theorem hal999 {l A B c : Nat} (hl : 1 ≤ l) (h : Hal l A B c) (hA : A < 1000) (hB : B < 1000) : c ≤ 11 := by
  by_cases hs : A < 100 ∧ B < 100
  · have := hal99 hl h hs.1 hs.2; omega
  · rcases hal_three hl h hA hB hs with e | ⟨c2, c0, c1, e, h2, h0, h1⟩
    · omega
    · have e2 := hal9 hl h2 (.inl (by omega))
      have e0 := hal99 hl h0 (by omega) (by omega)
      have e1 := hal108 hl h1 (by omega) (by omega)
      omega
theorem half_lt {A a m n : Nat} (h : A < 10 ^ a) (ha : a ≤ 2 * m) (hm : m ≤ n + 1) : A / 10 ^ m < 10 ^ (n + 1) ∧ A % 10 ^ m < 10 ^ (n + 1) := by
  have h1 : A < 10 ^ m * 10 ^ (n + 1) := by
    rw [← Nat.pow_add]
    exact Nat.lt_of_lt_of_le h (Nat.pow_le_pow_right (by decide) (by omega))
  refine ⟨Nat.div_lt_of_lt_mul h1, Nat.lt_of_lt_of_le (Nat.mod_lt _ (Nat.pow_pos (by decide))) (Nat.pow_le_pow_right (by decide) hm)⟩
theorem hal_le {l : Nat} (hl : 1 ≤ l) : ∀ (k A B c : Nat), Hal l A B c → A < 10 ^ (2 ^ k + 2) → B < 10 ^ (2 ^ k + 2) → c ≤ 11 * 3 ^ k
  | 0, A, B, c, h, hA, hB => by
    have e : (10 : Nat) ^ (2 ^ 0 + 2) = 1000 := by decide
    rw [e] at hA hB
    have := hal999 hl h hA hB
    simpa using this
  | k + 1, A, B, c, h, hA, hB => by
    obtain ⟨n, hn⟩ : ∃ n, 2 ^ k = n := ⟨_, rfl⟩
    have e : 2 ^ (k + 1) + 2 = 2 * n + 2 := by rw [Nat.pow_succ, hn]; omega
    rw [e] at hA hB
    have e3 : 11 * 3 ^ (k + 1) = 11 * 3 ^ k + 11 * 3 ^ k + 11 * 3 ^ k := by rw [Nat.pow_succ]; omega
    have p3 : 1 ≤ 3 ^ k := Nat.pow_pos (by decide)
    cases h with
    | one => omega
    | @more _ _ a b m c2 c1 c0 ha hb hno hm h2 h0 h1 =>
      have ua := ha.upto (k := 2 * n + 2) (by omega) hA
      have ub := hb.upto (k := 2 * n + 2) (by omega) hB
      obtain ⟨a1, a0⟩ := half_lt (n := n) ha.2.1 (show a ≤ 2 * m by omega) (by omega)
      obtain ⟨b1, b0⟩ := half_lt (n := n) hb.2.1 (show b ≤ 2 * m by omega) (by omega)
      have ep : (10 : Nat) ^ (n + 2) = 10 * 10 ^ (n + 1) := by rw [show n + 2 = n + 1 + 1 by omega, Nat.pow_succ, Nat.mul_comm]
      have i2 := hal_le hl k _ _ _ h2 (by rw [hn, ep]; omega) (by rw [hn, ep]; omega)
      have i0 := hal_le hl k _ _ _ h0 (by rw [hn, ep]; omega) (by rw [hn, ep]; omega)
      have i1 := hal_le hl k _ _ _ h1 (by rw [hn, ep]; omega) (by rw [hn, ep]; omega)
      omega
theorem hal_most {l A B c E : Nat} (k : Nat) (hl : 1 ≤ l) (h : Hal l A B c) (hE : E ≤ 2 ^ k + 2) (hA : A < 10 ^ E) (hB : B < 10 ^ E) : c ≤ 11 * 3 ^ k := by
  have hp : 10 ^ E ≤ 10 ^ (2 ^ k + 2) := Nat.pow_le_pow_right (by decide) hE
  exact hal_le hl k A B c h (Nat.lt_of_lt_of_le hA hp) (Nat.lt_of_lt_of_le hB hp)
end Go.Proofs.YtfdlncaplalenaaDoor
