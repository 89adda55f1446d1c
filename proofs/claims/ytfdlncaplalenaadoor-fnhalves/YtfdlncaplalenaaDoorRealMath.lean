/-
  Plain facts on rounding a quotient to 53 bits: how often a power of 2 is in it, what is left, and the rank of the nearest real.
-/
import Derived.Test.YtfdlncaplalenaaDoorRows
namespace Go.Proofs.YtfdlncaplalenaaDoor
set_option linter.unusedVariables false

def qk (N D k : Nat) : Nat := N * 2 ^ 150 / (D * 2 ^ k)
def rk (N D k : Nat) : Nat := N * 2 ^ 150 % (D * 2 ^ k)
/-- How two numbers compare. -/
def cmpN (a b : Nat) : Int := if a < b then -1 else if a = b then 0 else 1
/-- Whether what is left is less than the half, just this, or more. -/
def ck (N D k : Nat) : Int := cmpN (2 * rk N D k) (D * 2 ^ k)
def upR (q : Nat) (c : Int) : Nat := if 0 < c ∨ (c = 0 ∧ q % 2 = 1) then q + 1 else q
def manR (N D k : Nat) : Nat := upR (qk N D k) (ck N D k)
def Fit (N D k : Nat) : Prop := qk N D k < 9007199254740992 ∧ (4503599627370496 ≤ qk N D k ∨ k = 0)
/-- R is the rank of the real nearest to the quotient. -/
def Near (N D R : Nat) : Prop := ∃ k, Fit N D k ∧ R = k * 4503599627370496 + manR N D k

theorem qk_succ (N D k : Nat) : qk N D (k + 1) = qk N D k / 2 := by
  unfold qk
  rw [Nat.div_div_eq_div_mul, show D * 2 ^ (k + 1) = D * 2 ^ k * 2 by rw [Nat.pow_succ 2 k, Nat.mul_assoc]]
theorem qk_anti {N D k k' : Nat} (h : k ≤ k') : qk N D k' ≤ qk N D k := by
  induction h with
  | refl => exact Nat.le_refl _
  | step _ ih => rw [qk_succ]; omega
theorem Fit.one {N D k k' : Nat} (h : Fit N D k) (h' : Fit N D k') : k = k' := by
  have key : ∀ {a b : Nat}, Fit N D a → Fit N D b → ¬ a < b := by
    intro a b ha hb hlt
    have h1 : qk N D b ≤ qk N D (a + 1) := qk_anti hlt
    rw [qk_succ] at h1
    have h2 := ha.1
    rcases hb.2 with h3 | h3 <;> omega
  have h1 := key h h'
  have h2 := key h' h
  omega
theorem Near.one {N D R R' : Nat} (h : Near N D R) (h' : Near N D R') : R = R' := by
  obtain ⟨k, hf, rfl⟩ := h
  obtain ⟨k', hf', rfl⟩ := h'
  rw [hf.one hf']
theorem cmpN_scale (c a b : Nat) (hc : 0 < c) : cmpN (c * a) (c * b) = cmpN a b := by
  unfold cmpN
  have h1 : (c * a < c * b) = (a < b) := by rw [Nat.mul_lt_mul_left hc]
  have h2 : (c * a = c * b) = (a = b) := propext ⟨fun h => Nat.eq_of_mul_eq_mul_left hc h, fun h => by rw [h]⟩
  simp only [h1, h2]
theorem qk_scale (c N D k : Nat) (hc : 0 < c) : qk (c * N) (c * D) k = qk N D k := by
  unfold qk
  rw [Nat.mul_assoc, Nat.mul_assoc, Nat.mul_div_mul_left _ _ hc]
theorem rk_scale (c N D k : Nat) : rk (c * N) (c * D) k = c * rk N D k := by
  unfold rk
  rw [Nat.mul_assoc, Nat.mul_assoc, Nat.mul_mod_mul_left]
theorem ck_scale (c N D k : Nat) (hc : 0 < c) : ck (c * N) (c * D) k = ck N D k := by
  unfold ck
  rw [rk_scale, Nat.mul_left_comm, Nat.mul_assoc, cmpN_scale _ _ _ hc]
theorem Near.scale {c N D R : Nat} (hc : 0 < c) (h : Near N D R) : Near (c * N) (c * D) R := by
  obtain ⟨k, hf, rfl⟩ := h
  refine ⟨k, ?_, ?_⟩
  · unfold Fit; rw [qk_scale _ _ _ _ hc]; exact hf
  · unfold manR; rw [qk_scale _ _ _ _ hc, ck_scale _ _ _ _ hc]
theorem Near.unscale {c N D R : Nat} (hc : 0 < c) (h : Near (c * N) (c * D) R) : Near N D R := by
  obtain ⟨k, hf, rfl⟩ := h
  refine ⟨k, ?_, ?_⟩
  · unfold Fit at hf ⊢; rw [qk_scale _ _ _ _ hc] at hf; exact hf
  · unfold manR; rw [qk_scale _ _ _ _ hc, ck_scale _ _ _ _ hc]
/-- Equal quotients have one nearest real. -/
theorem Near.cross {N D N' D' R R' : Nat} (h : Near N D R) (h' : Near N' D' R') (hD : 0 < D) (hD' : 0 < D') (he : N * D' = N' * D) : R = R' := by
  have h1 := h.scale hD'
  have h2 := h'.scale hD
  rw [show D' * N = D * N' by rw [Nat.mul_comm, he, Nat.mul_comm], Nat.mul_comm D' D] at h1
  exact h1.one h2
theorem upR_le (q : Nat) (c : Int) : q ≤ upR q c ∧ upR q c ≤ q + 1 := by
  unfold upR; split <;> omega
/-- An Exp below 0. -/
theorem cut_low (N D j : Nat) (hj : j ≤ 150) : qk N D (150 - j) = N * 2 ^ j / D ∧ ck N D (150 - j) = cmpN (2 * (N * 2 ^ j % D)) D := by
  have hp : 0 < 2 ^ (150 - j) := Nat.two_pow_pos _
  have e : 2 ^ 150 = 2 ^ (150 - j) * 2 ^ j := by rw [← Nat.pow_add]; congr 1; omega
  have e1 : N * 2 ^ 150 = 2 ^ (150 - j) * (N * 2 ^ j) := by rw [e]; exact Nat.mul_left_comm _ _ _
  have e2 : D * 2 ^ (150 - j) = 2 ^ (150 - j) * D := Nat.mul_comm _ _
  refine ⟨?_, ?_⟩
  · unfold qk; rw [e1, e2, Nat.mul_div_mul_left _ _ hp]
  · unfold ck rk; rw [e1, e2, Nat.mul_mod_mul_left, Nat.mul_left_comm, cmpN_scale _ _ _ hp]
/-- An Exp that is not below 0. -/
theorem cut_high (N D e : Nat) : qk N D (150 + e) = N / (D * 2 ^ e) ∧ ck N D (150 + e) = cmpN (2 * (N % (D * 2 ^ e))) (D * 2 ^ e) := by
  have hp : 0 < 2 ^ 150 := Nat.two_pow_pos _
  have e1 : N * 2 ^ 150 = 2 ^ 150 * N := Nat.mul_comm _ _
  have e2 : D * 2 ^ (150 + e) = 2 ^ 150 * (D * 2 ^ e) := by rw [Nat.pow_add]; exact Nat.mul_left_comm _ _ _
  refine ⟨?_, ?_⟩
  · unfold qk; rw [e1, e2, Nat.mul_div_mul_left _ _ hp]
  · unfold ck rk; rw [e1, e2, Nat.mul_mod_mul_left, Nat.mul_left_comm, cmpN_scale _ _ _ hp]

/-- Man and Exp of a rank. -/
def manOf (R : Nat) : Nat := if 302 * 4503599627370496 ≤ R then 0 else R - (R / 4503599627370496 - 1) * 4503599627370496
def expOf (R : Nat) : Int := if 302 * 4503599627370496 ≤ R then 151 else ((R / 4503599627370496 - 1 : Nat) : Int) - 150
/-- Man may be one too great. -/
theorem rank_of (k m : Nat) (h1 : m < 9007199254740992) (h2 : 4503599627370496 ≤ m ∨ k = 0) (hk : k ≤ 300) : manOf (k * 4503599627370496 + m) = m ∧ expOf (k * 4503599627370496 + m) = (k : Int) - 150 := by
  have hd : (k * 4503599627370496 + m) / 4503599627370496 - 1 = k := by
    rcases h2 with h2 | h2 <;> omega
  have hlt : ¬ 302 * 4503599627370496 ≤ k * 4503599627370496 + m := by omega
  unfold manOf expOf
  rw [if_neg hlt, if_neg hlt, hd]
  exact ⟨by omega, rfl⟩
theorem rank_inf (k m : Nat) (h2 : 4503599627370496 ≤ m) (hk : 300 < k) : manOf (k * 4503599627370496 + m) = 0 ∧ expOf (k * 4503599627370496 + m) = 151 := by
  have hle : 302 * 4503599627370496 ≤ k * 4503599627370496 + m := by omega
  unfold manOf expOf
  rw [if_pos hle, if_pos hle]
  exact ⟨rfl, rfl⟩
/-- By as many bits it is not too small. -/
theorem qk_first {N D bn bd k : Nat} (h1 : 2 ^ bn ≤ N) (h2 : D < 2 ^ bd) (hD : 0 < D) (hk : bn + 98 = bd + k) : 4503599627370496 ≤ qk N D k := by
  unfold qk
  rw [Nat.le_div_iff_mul_le (Nat.mul_pos hD (Nat.two_pow_pos k))]
  have h3 : D * 2 ^ k ≤ 2 ^ bd * 2 ^ k := Nat.mul_le_mul_right _ (Nat.le_of_lt h2)
  have h4 : 4503599627370496 * (2 ^ bd * 2 ^ k) = 2 ^ bn * 2 ^ 150 := by
    rw [show 4503599627370496 = 2 ^ 52 by decide, ← Nat.pow_add, ← Nat.pow_add, ← Nat.pow_add]
    congr 1; omega
  have h5 : 2 ^ bn * 2 ^ 150 ≤ N * 2 ^ 150 := Nat.mul_le_mul_right _ h1
  have h6 : 4503599627370496 * (D * 2 ^ k) ≤ 4503599627370496 * (2 ^ bd * 2 ^ k) := Nat.mul_le_mul_left _ h3
  omega

/-- A finite real's parts. -/
def FinR (m : Nat) (e : Int) : Prop := (e = -150 ∧ m < 9007199254740992) ∨ (-150 < e ∧ e ≤ 150 ∧ 4503599627370496 ≤ m ∧ m < 9007199254740992)
/-- How great it is, in the least steps. -/
def valR (m : Nat) (e : Int) : Nat := m * 2 ^ (e + 150).toNat
def rankN (m : Nat) (e : Int) : Nat := (e + 150).toNat * 4503599627370496 + m
theorem rank_lt {m m' : Nat} {e e' : Int} (h : FinR m e) (h' : FinR m' e') (hlt : e < e') : rankN m e < rankN m' e' ∧ valR m e < valR m' e' := by
  have hm' : 4503599627370496 ≤ m' := by rcases h' with h' | h' <;> rcases h with h | h <;> omega
  have hm : m < 9007199254740992 := by rcases h with h | h <;> omega
  have he : -150 ≤ e := by rcases h with h | h <;> omega
  obtain ⟨a, ha⟩ : ∃ a : Nat, (e + 150).toNat = a := ⟨_, rfl⟩
  obtain ⟨b, hb⟩ : ∃ b : Nat, (e' + 150).toNat = a + 1 + b := ⟨(e' + 150).toNat - (a + 1), by omega⟩
  unfold rankN valR
  rw [ha, hb]
  refine ⟨by omega, ?_⟩
  have h1 : m * 2 ^ a < 9007199254740992 * 2 ^ a := Nat.mul_lt_mul_of_pos_right hm (Nat.two_pow_pos a)
  have h2 : 9007199254740992 * 2 ^ a = 4503599627370496 * 2 ^ (a + 1) := by rw [Nat.pow_succ 2 a]; omega
  have h3 : 4503599627370496 * 2 ^ (a + 1) ≤ m' * 2 ^ (a + 1) := Nat.mul_le_mul_right _ hm'
  have h4 : m' * 2 ^ (a + 1) ≤ m' * 2 ^ (a + 1 + b) := Nat.mul_le_mul_left _ (Nat.pow_le_pow_right (by omega) (by omega))
  omega
/-- The rank goes as the number. -/
theorem cmp_rank {m m' : Nat} {e e' : Int} (h : FinR m e) (h' : FinR m' e') : cmpN (rankN m e) (rankN m' e') = cmpN (valR m e) (valR m' e') := by
  unfold cmpN
  by_cases h1 : e < e'
  · obtain ⟨a, b⟩ := rank_lt h h' h1
    rw [if_pos a, if_pos b]
  · by_cases h2 : e' < e
    · obtain ⟨a, b⟩ := rank_lt h' h h2
      rw [if_neg (by omega), if_neg (by omega), if_neg (by omega), if_neg (by omega)]
    · have : e = e' := by omega
      subst this
      unfold rankN valR
      have hp : 0 < 2 ^ (e + 150).toNat := Nat.two_pow_pos _
      have a1 : ((e + 150).toNat * 4503599627370496 + m < (e + 150).toNat * 4503599627370496 + m') = (m < m') := propext ⟨by omega, by omega⟩
      have a2 : ((e + 150).toNat * 4503599627370496 + m = (e + 150).toNat * 4503599627370496 + m') = (m = m') := propext ⟨by omega, by omega⟩
      have b1 : (m * 2 ^ (e + 150).toNat < m' * 2 ^ (e + 150).toNat) = (m < m') := propext ⟨fun h => Nat.lt_of_mul_lt_mul_right h, fun h => Nat.mul_lt_mul_of_pos_right h hp⟩
      have b2 : (m * 2 ^ (e + 150).toNat = m' * 2 ^ (e + 150).toNat) = (m = m') := propext ⟨fun h => Nat.eq_of_mul_eq_mul_right hp h, fun h => by rw [h]⟩
      simp only [a1, a2, b1, b2]
end Go.Proofs.YtfdlncaplalenaaDoor
