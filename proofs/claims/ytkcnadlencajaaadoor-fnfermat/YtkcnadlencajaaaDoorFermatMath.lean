/-
  Fermat's little theorem, by the binomial theorem: plain facts.
-/
namespace Go.Proofs.YtkcnadlencajaaaDoor
set_option linter.unusedVariables false
/-! ### Fermat's little theorem -/
def chs : Nat → Nat → Nat
  | _, 0 => 1
  | 0, _ + 1 => 0
  | n + 1, k + 1 => chs n k + chs n (k + 1)
theorem chs_above (n : Nat) : ∀ k, n < k → chs n k = 0 := by
  induction n with
  | zero => intro k hk; cases k with
    | zero => omega
    | succ k => rfl
  | succ n ih => intro k hk; cases k with
    | zero => omega
    | succ k => simp only [chs]; rw [ih k (by omega), ih (k + 1) (by omega)]
theorem chs_self (n : Nat) : chs n n = 1 := by
  induction n with
  | zero => rfl
  | succ n ih => simp only [chs]; rw [ih, chs_above n (n + 1) (by omega)]
theorem chs_mul (n : Nat) : ∀ k, chs (n + 1) (k + 1) * (k + 1) = (n + 1) * chs n k := by
  induction n with
  | zero => intro k; cases k with
    | zero => rfl
    | succ k => simp [chs]
  | succ n ih =>
    intro k
    cases k with
    | zero =>
      have h1 : chs (n + 1 + 1) 1 = chs (n + 1) 0 + chs (n + 1) 1 := rfl
      have h2 := ih 0
      have h3 : chs (n + 1) 0 = 1 := rfl
      have h4 : chs n 0 = 1 := by cases n <;> rfl
      rw [h4] at h2
      rw [h3] at h1 ⊢
      simp only [Nat.zero_add, Nat.mul_one] at h1 h2 ⊢
      omega
    | succ k =>
      have h1 : chs (n + 1 + 1) (k + 1 + 1) = chs (n + 1) (k + 1) + chs (n + 1) (k + 1 + 1) := rfl
      have h2 := ih k
      have h3 := ih (k + 1)
      have h4 : chs (n + 1) (k + 1) = chs n k + chs n (k + 1) := rfl
      rw [h1]
      grind
def bsum (n a : Nat) : Nat → Nat
  | 0 => 0
  | m + 1 => bsum n a m + chs n m * a ^ m
theorem bsum_step (n a : Nat) : ∀ m, bsum (n + 1) a (m + 1) = bsum n a (m + 1) + a * bsum n a m := by
  intro m
  induction m with
  | zero => simp [bsum, chs]
  | succ m ih =>
    rw [bsum, ih]
    show _ = bsum n a (m + 1) + chs n (m + 1) * a ^ (m + 1) + a * (bsum n a m + chs n m * a ^ m)
    have h : chs (n + 1) (m + 1) = chs n m + chs n (m + 1) := rfl
    rw [h, Nat.pow_succ]
    grind
theorem binom (n a : Nat) : (a + 1) ^ n = bsum n a (n + 1) := by
  induction n with
  | zero => simp [bsum, chs]
  | succ n ih =>
    rw [Nat.pow_succ, ih, bsum_step]
    have : bsum n a (n + 1 + 1) = bsum n a (n + 1) := by
      show bsum n a (n + 1) + chs n (n + 1) * a ^ (n + 1) = _
      rw [chs_above n (n + 1) (by omega)]; simp
    rw [this]
    grind
/-- No number but 1 below p divides p. -/
def NoDiv (p : Nat) : Prop := 2 ≤ p ∧ ∀ d, 2 ≤ d → d < p → p % d ≠ 0
theorem NoDiv.coprime {p i : Nat} (hp : NoDiv p) (h0 : 0 < i) (hi : i < p) : Nat.gcd p i = 1 := by
  have h1 : Nat.gcd p i ∣ p := Nat.gcd_dvd_left p i
  have h2 : Nat.gcd p i ≤ i := Nat.le_of_dvd h0 (Nat.gcd_dvd_right p i)
  have h3 : 0 < Nat.gcd p i := Nat.gcd_pos_of_pos_right p h0
  rcases Nat.lt_or_ge (Nat.gcd p i) 2 with h | h
  · omega
  · exact absurd (Nat.mod_eq_zero_of_dvd h1) (hp.2 _ h (by omega))
theorem NoDiv.chs {p : Nat} (hp : NoDiv p) (k : Nat) (hk : k + 1 < p) : p ∣ chs p (k + 1) := by
  obtain ⟨n, rfl⟩ : ∃ n, p = n + 1 := ⟨p - 1, by have := hp.1; omega⟩
  have h := chs_mul n k
  have hd : (n + 1) ∣ Go.Proofs.YtkcnadlencajaaaDoor.chs (n + 1) (k + 1) * (k + 1) := by rw [h]; exact Nat.dvd_mul_right _ _
  exact Nat.Coprime.dvd_of_dvd_mul_right (hp.coprime (by omega) hk) hd
theorem bsum_mod {p : Nat} (hp : NoDiv p) (a : Nat) : ∀ m, m + 1 ≤ p → bsum p a (m + 1) % p = 1 % p := by
  intro m
  induction m with
  | zero => intro _; simp [bsum]; cases p <;> rfl
  | succ m ih =>
    intro hm
    rw [bsum, Nat.add_mod, ih (by omega)]
    obtain ⟨c, hc⟩ := hp.chs m (by omega)
    rw [hc, Nat.mul_assoc, Nat.mul_mod_right]; simp
theorem fermat {p : Nat} (hp : NoDiv p) (a : Nat) : a ^ p % p = a % p := by
  induction a with
  | zero => rw [Nat.zero_pow (by have := hp.1; omega)]
  | succ a ih =>
    rw [binom, bsum, chs_self, Nat.one_mul, Nat.add_mod, ih]
    obtain ⟨m, rfl⟩ : ∃ m, p = m + 1 := ⟨p - 1, by have := hp.1; omega⟩
    rw [bsum_mod hp a m (Nat.le_refl _), Nat.add_comm a 1, ← Nat.add_mod]
/-- A number whose divisors up to its root were looked for. -/
theorem noDiv_of {p k : Nat} (h2 : 2 ≤ p) (hk : p < k * k) (h : ∀ d, 2 ≤ d → d < k → p % d ≠ 0) : NoDiv p := by
  refine ⟨h2, fun d hd hlt he => ?_⟩
  obtain ⟨c, hc⟩ := Nat.dvd_of_mod_eq_zero he
  rcases Nat.lt_or_ge d k with hdk | hdk
  · exact h d hd hdk he
  · have hck : c < k := by
      rcases Nat.lt_or_ge c k with h' | h'
      · exact h'
      · have := Nat.mul_le_mul hdk h'; omega
    have hc2 : 2 ≤ c := by
      rcases Nat.lt_or_ge c 2 with h' | h'
      · have : c = 0 ∨ c = 1 := by omega
        rcases this with rfl | rfl <;> omega
      · exact h'
    exact h c hc2 hck (by rw [hc]; exact Nat.mul_mod_left d c)
end Go.Proofs.YtkcnadlencajaaaDoor
