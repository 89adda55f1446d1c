/-
  The texts SpecNear, SpecOf, one behind the other.
-/
import Derived.Test.YtfdlncaplalenaaDoorSpecRoot
import Derived.Test.YtfdlncaplalenaaDoorRealMath
import Derived.Test.YtfdlncaplalenaaDoorImplReal
import Derived.Test.YtfdlncaplalenaaDoorPkImplTwo2

/-
  What lbTwo, lbBits, lbDiv and lbOf of spec answer.
-/
namespace Go.Proofs.YtfdlncaplalenaaDoor
open Go.RowKit
set_option linter.unusedVariables false

theorem two_lt_tenS (j e : Nat) (hj : j ≤ 2 * e) (he : e ≠ 0) : 2 ^ j < 10 ^ e := by
  have h1 : 2 ^ j ≤ 2 ^ (2 * e) := Nat.pow_le_pow_right (by decide) hj
  rw [Nat.pow_mul] at h1
  exact Nat.lt_of_le_of_lt h1 (Nat.pow_lt_pow_left (by decide) he)
theorem Tx.two {s : ByteArray} {j : Nat} (h : Tx s (2 ^ j)) (hj : j ≤ 1200) : s.size ≤ 600 := h.size (two_lt_tenS j 600 (by omega) (by decide)) (by omega)

theorem Tx.lt' {s : ByteArray} {n k : Nat} (h : Tx s n) (hk : s.size ≤ k) : n < 10 ^ k := by
  rw [← h.2]; exact Nat.lt_of_lt_of_le (dval_lt _ (canon_all h.1)) (Nat.pow_le_pow_right (by decide) (by simpa using hk))
theorem ten_le_two (e j : Nat) (h : 4 * e ≤ j) : 10 ^ e ≤ 2 ^ j := by
  have h1 : 10 ^ e ≤ (2 ^ 4) ^ e := Nat.pow_le_pow_left (by decide) e
  rw [← Nat.pow_mul] at h1
  exact Nat.le_trans h1 (Nat.pow_le_pow_right (by decide) h)
/-- How many bits there are. -/
theorem cnt_bits {n j : Nat} (h : Cnt 2 n j) (h0 : n ≠ 0) : n < 2 ^ j ∧ ∃ i, j = i + 1 ∧ 2 ^ i ≤ n := by
  obtain ⟨h1, h2, h3⟩ := h
  refine ⟨?_, j - 1, by omega, ?_⟩
  · rcases Nat.div_eq_zero_iff.1 h2 with h4 | h4
    · have := Nat.two_pow_pos j; omega
    · exact h4
  · by_cases hj : j = 1
    · subst hj; simp; omega
    · have h4 := h3 (j - 1) (by omega) (by omega)
      rcases Nat.lt_or_ge n (2 ^ (j - 1)) with h5 | h5
      · exact absurd (Nat.div_eq_of_lt h5) h4
      · exact h5

theorem ten_mulS {x y i j : Nat} (h : x < 10 ^ i) (g : y < 10 ^ j) : x * y < 10 ^ (i + j) := by
  rw [Nat.pow_add]
  have h1 : x * y ≤ x * 10 ^ j := Nat.mul_le_mul_left _ (Nat.le_of_lt g)
  have h2 : x * 10 ^ j < 10 ^ i * 10 ^ j := Nat.mul_lt_mul_of_pos_right h (Nat.pow_pos (by decide))
  omega
theorem ten_two (e j : Nat) (h : 10 * e ≤ j) : 10 ^ (3 * e) ≤ 2 ^ j := by
  have h1 : (10 ^ 3) ^ e ≤ (2 ^ 10) ^ e := Nat.pow_le_pow_left (by decide) e
  rw [← Nat.pow_mul, ← Nat.pow_mul] at h1
  exact Nat.le_trans h1 (Nat.pow_le_pow_right (by decide) h)
theorem qk_le (N D k : Nat) : qk N D k ≤ N * 2 ^ 150 := Nat.div_le_self _ _
theorem mul_pow_lt {N a b : Nat} (h : N < 2 ^ a) : N * 2 ^ b < 2 ^ (a + b) := by rw [Nat.pow_add]; exact Nat.mul_lt_mul_of_pos_right h (Nat.two_pow_pos _)
theorem qk_lt_ten {N D k a e : Nat} (h : N < 2 ^ a) (he : a + 150 ≤ 2 * e) (h0 : e ≠ 0) : qk N D k < 10 ^ e :=
  Nat.lt_of_le_of_lt (qk_le N D k) (Nat.lt_trans (mul_pow_lt (b := 150) h) (two_lt_tenS (a + 150) e he h0))
theorem qk_lt {N D k : Nat} (h : N < 2 ^ 1000) : qk N D k < 10 ^ 600 := qk_lt_ten (a := 1000) (e := 600) h (by omega) (by decide)
theorem Tx.prod {s : ByteArray} {n m i j k : Nat} (h : Tx s (n * m)) (h1 : n < 10 ^ i) (h2 : m < 10 ^ j) (hk : i + j = k) (h0 : 1 ≤ k) : s.size ≤ k := by
  subst hk
  exact h.size (ten_mulS h1 h2) h0
/-- A quotient of a divided by b, what is left and the divisor, for the power of 2 at k. -/
def CutT (N D k : Nat) (q r b : ByteArray) : Prop := Tx q (qk N D k) ∧ q.size ≤ 600 ∧ ∃ R B, Tx r R ∧ Tx b B ∧ r.size ≤ 2000 ∧ b.size ≤ 2000 ∧ ck N D k = cmpN (2 * R) B

end Go.Proofs.YtfdlncaplalenaaDoor

/-
  What lbOf of spec answers: the nearest real.
-/
namespace Go.Proofs.YtfdlncaplalenaaDoor
open Go.RowKit
set_option linter.unusedVariables false

/-- The real of rank R with a sign. -/
def RealV (g : Bool) (R : Nat) (v : Value) : Prop := v = .agg #[.bool g, .int .i64 (manOf R : Nat), .int .i64 (expOf R)]
theorem wpList_idS {ops : Array Oper} {rest : List Oper} {a : Act} {w : World} {Q : Exit → Act → World → Prop} (h : wpList Tryd.prog ops Q rest a w) : wpList Tryd.prog ops Q rest a w := h
theorem Tx.sum {r s : ByteArray} {n k : Nat} (hr : Tx r n) (hk : r.size ≤ k) (h : Tx s (n + n)) (h0 : 1 ≤ k) : s.size ≤ k + 1 := h.size (ten_add (hr.lt' hk) (hr.lt' hk)) (by omega)
theorem qk_hi {q B : Nat} (h : q < 2 ^ B) (hb : B = 0 ∨ ∃ B', B = B' + 1 ∧ 2 ^ B' ≤ q) : 53 < B ↔ 9007199254740992 ≤ q := by
  have h53 : (2 : Nat) ^ 53 = 9007199254740992 := by decide
  constructor
  · intro h1
    rcases hb with h2 | ⟨B', h2, h3⟩
    · omega
    · have : 2 ^ 53 ≤ 2 ^ B' := Nat.pow_le_pow_right (by decide) (by omega)
      omega
  · intro h1
    rcases Nat.lt_or_ge 53 B with h2 | h2
    · exact h2
    · have : 2 ^ B ≤ 2 ^ 53 := Nat.pow_le_pow_right (by decide) h2
      omega
theorem bits_lt {N B' a : Nat} (h : 2 ^ B' ≤ N) (hN : N < 2 ^ a) : B' < a := (Nat.pow_lt_pow_iff_right (by decide : 1 < 2)).1 (Nat.lt_of_le_of_lt h hN)
/-- What comes out, out of Man and Exp. -/
theorem out_man {N D K : Nat} (h : Fit N D K) (hm : manR N D K ≠ 9007199254740992) (hk : K ≤ 300) : manOf (K * 4503599627370496 + manR N D K) = manR N D K ∧ expOf (K * 4503599627370496 + manR N D K) = (K : Int) - 150 := by
  have h1 := upR_le (qk N D K) (ck N D K)
  have h2 := h.1
  refine rank_of K _ ?_ ?_ hk
  · unfold manR at *; omega
  · rcases h.2 with h3 | h3
    · left; unfold manR; omega
    · right; exact h3
theorem out_man_inf {N D K : Nat} (h : Fit N D K) (hk : 300 < K) : manOf (K * 4503599627370496 + manR N D K) = 0 ∧ expOf (K * 4503599627370496 + manR N D K) = 151 := by
  have h1 := upR_le (qk N D K) (ck N D K)
  refine rank_inf K _ ?_ hk
  rcases h.2 with h3 | h3
  · unfold manR; omega
  · omega
theorem out_next {N D K : Nat} (hm : manR N D K = 9007199254740992) (hk : K + 1 ≤ 300) : manOf (K * 4503599627370496 + manR N D K) = 4503599627370496 ∧ expOf (K * 4503599627370496 + manR N D K) = (K : Int) + 1 - 150 := by
  have := rank_of (K + 1) 4503599627370496 (by omega) (by omega) hk
  rw [hm, show K * 4503599627370496 + 9007199254740992 = (K + 1) * 4503599627370496 + 4503599627370496 by omega]
  refine ⟨this.1, ?_⟩
  rw [this.2]; omega
theorem out_next_inf {N D K : Nat} (hm : manR N D K = 9007199254740992) (hk : 300 < K + 1) : manOf (K * 4503599627370496 + manR N D K) = 0 ∧ expOf (K * 4503599627370496 + manR N D K) = 151 := by
  rw [hm, show K * 4503599627370496 + 9007199254740992 = (K + 1) * 4503599627370496 + 4503599627370496 by omega]
  exact rank_inf (K + 1) _ (by omega) hk

end Go.Proofs.YtfdlncaplalenaaDoor
