/-
  Whole numbers as floats of 53 digits: sums and products are exact. Plain facts.
-/
import Derived.Laws.ComplexArith
namespace Go.Proofs.YtmfpnbmfcoahbaaDoor
open Ieee
set_option linter.unusedVariables false

theorem dbl_binade : double.binade = 4503599627370496 := by decide
theorem dbl_inf : double.infRung = 9218868437227405312 := by decide
theorem dbl_sign : double.signWeight = 9223372036854775808 := by decide
theorem dbl_least : double.leastPlace = -1074 := by decide
theorem dbl_frac : double.fractionBits = 52 := rfl

/-- The datum is a whole number: its sign and its size. -/
def Stands (d : Datum) (s : Bool) (N : Nat) : Prop := ∃ k : Nat, d = .number s (N * 2 ^ k) (-(k : Int))
def sg (s : Bool) (N : Nat) : Int := if s then -(N : Int) else N

theorem log2_shift {N : Nat} (h : N ≠ 0) (k : Nat) : (N * 2 ^ k).log2 = N.log2 + k := by
  have hp : 0 < 2 ^ k := Nat.two_pow_pos k
  have h0 : N * 2 ^ k ≠ 0 := Nat.mul_ne_zero h (by omega)
  have h1 : (N * 2 ^ k).log2 < N.log2 + k + 1 := by
    rw [Nat.log2_lt h0, show N.log2 + k + 1 = (N.log2 + 1) + k by omega, Nat.pow_add 2 (N.log2 + 1) k]
    exact Nat.mul_lt_mul_of_pos_right Nat.lt_log2_self hp
  have h2 : N.log2 + k ≤ (N * 2 ^ k).log2 := by
    rw [Nat.le_log2 h0, Nat.pow_add]
    exact Nat.mul_le_mul_right _ (Nat.log2_self_le h)
  omega

theorem cut_exact (way : Toward) (hw : way = .even ∨ way = .zero) (neg : Bool) (q drop : Nat) : way.cut neg (q * 2 ^ drop) drop = q := by
  have hp : 0 < 2 ^ drop := Nat.two_pow_pos drop
  have key : ∀ g, g = 1 <<< min drop ((q * 2 ^ drop).log2 + 2) → (q * 2 ^ drop) / g = q ∧ (q * 2 ^ drop) % g = 0 ∧ 0 < g := by
    intro g hg
    rw [Nat.one_shiftLeft] at hg
    have hgp : 0 < g := by rw [hg]; exact Nat.two_pow_pos _
    by_cases h : q = 0
    · subst h; simp [hgp]
    · have h1 : drop ≤ (q * 2 ^ drop).log2 := by
        rw [Nat.le_log2 (Nat.mul_ne_zero h (by omega))]
        exact Nat.le_mul_of_pos_left _ (Nat.pos_of_ne_zero h)
      rw [show min drop ((q * 2 ^ drop).log2 + 2) = drop by omega] at hg
      subst hg
      exact ⟨Nat.mul_div_cancel _ hp, Nat.mul_mod_left _ _, hp⟩
  obtain ⟨h1, h2, h3⟩ := key _ rfl
  unfold Toward.cut
  simp only
  rw [h1, h2]
  rcases hw with rfl | rfl
  · have : ¬ (1 <<< min drop ((q * 2 ^ drop).log2 + 2) = 0) := by omega
    simp [this]
  · simp

theorem read_zero (s : Bool) : double.read (double.word s 0) = .number s 0 (-1074) := by
  cases s <;> decide
theorem read_word (s : Bool) (L K : Nat) (hL : L ≤ 52) (h1 : 4503599627370496 ≤ K) (h2 : K < 9007199254740992) : double.read (double.word s ((L + 1022) * 4503599627370496 + K)) = .number s K ((L : Int) - 52) := by
  obtain ⟨R, hR⟩ : ∃ R, R = (L + 1022) * 4503599627370496 + K := ⟨_, rfl⟩
  rw [← hR]
  have hb : double.word s R / 9223372036854775808 % 2 = if s then 1 else 0 := by
    unfold Format.word; rw [dbl_sign]
    cases s <;> simp <;> omega
  have hm : double.word s R % 9223372036854775808 = R := by
    unfold Format.word; rw [dbl_sign]
    cases s <;> simp <;> omega
  unfold Format.read
  simp only
  rw [dbl_sign, hb, hm, dbl_binade, dbl_inf, dbl_least, if_neg (by omega), if_pos (by omega)]
  have e1 : 4503599627370496 + R % 4503599627370496 = K := by omega
  have e2 : (-1074 : Int) + ((R / 4503599627370496 - 1 : Nat) : Int) = (L : Int) - 52 := by omega
  rw [e1, e2]
  cases s <;> rfl

theorem pow52 {N : Nat} (h : N ≠ 0) (hN : N < 9007199254740992) : N.log2 ≤ 52 ∧ 4503599627370496 ≤ N * 2 ^ (52 - N.log2) ∧ N * 2 ^ (52 - N.log2) < 9007199254740992 := by
  have h0 : N.log2 < 53 := by rw [Nat.log2_lt h]; simpa using hN
  have hle : N.log2 ≤ 52 := by omega
  have h1 : 2 ^ N.log2 * 2 ^ (52 - N.log2) ≤ N * 2 ^ (52 - N.log2) := Nat.mul_le_mul_right _ (Nat.log2_self_le h)
  have h2 : N * 2 ^ (52 - N.log2) < 2 ^ (N.log2 + 1) * 2 ^ (52 - N.log2) := Nat.mul_lt_mul_of_pos_right Nat.lt_log2_self (Nat.two_pow_pos _)
  rw [← Nat.pow_add, show N.log2 + (52 - N.log2) = 52 by omega] at h1
  rw [← Nat.pow_add, show N.log2 + 1 + (52 - N.log2) = 53 by omega] at h2
  exact ⟨hle, by simpa using h1, by simpa using h2⟩

theorem nearest_word {s : Bool} {N k : Nat} (h : N ≠ 0) (hN : N < 9007199254740992) : double.nearest s (N * 2 ^ k) (-(k : Int)) = double.word s ((N.log2 + 1022) * 4503599627370496 + N * 2 ^ (52 - N.log2)) := by
  obtain ⟨hL, h1, h2⟩ := pow52 h hN
  have hp : 0 < 2 ^ k := Nat.two_pow_pos k
  have h0 : N * 2 ^ k ≠ 0 := Nat.mul_ne_zero h (by omega)
  unfold Format.nearest
  rw [if_neg h0]
  simp only
  rw [log2_shift h k, dbl_frac, dbl_least, dbl_binade, dbl_inf]
  have hlast : max (-(k : Int) + ((N.log2 + k : Nat) : Int) - ((52 : Nat) : Int)) (-1074) = (N.log2 : Int) - 52 := by omega
  rw [hlast]
  have hkept : Toward.even.cut s ((N * 2 ^ k) <<< (-(k : Int) - ((N.log2 : Int) - 52)).toNat) (((N.log2 : Int) - 52) - -(k : Int)).toNat = N * 2 ^ (52 - N.log2) := by
    by_cases hk : k ≤ 52 - N.log2
    · rw [show (((N.log2 : Int) - 52) - -(k : Int)).toNat = 0 by omega, show (-(k : Int) - ((N.log2 : Int) - 52)).toNat = 52 - N.log2 - k by omega, Nat.shiftLeft_eq]
      have := cut_exact .even (.inl rfl) s (N * 2 ^ k * 2 ^ (52 - N.log2 - k)) 0
      rw [Nat.pow_zero, Nat.mul_one] at this
      rw [this, Nat.mul_assoc, ← Nat.pow_add, show k + (52 - N.log2 - k) = 52 - N.log2 by omega]
    · rw [show (-(k : Int) - ((N.log2 : Int) - 52)).toNat = 0 by omega, show (((N.log2 : Int) - 52) - -(k : Int)).toNat = k - (52 - N.log2) by omega, Nat.shiftLeft_zero]
      have := cut_exact .even (.inl rfl) s (N * 2 ^ (52 - N.log2)) (k - (52 - N.log2))
      rw [Nat.mul_assoc, ← Nat.pow_add, show 52 - N.log2 + (k - (52 - N.log2)) = k by omega] at this
      exact this
  rw [hkept]
  congr 1
  have : ((N.log2 : Int) - 52 - -1074).toNat = N.log2 + 1022 := by omega
  rw [this]
  omega

theorem stands_zero (s : Bool) (k : Nat) : Stands (.number s 0 (-(k : Int))) s 0 := ⟨k, by rw [Nat.zero_mul]⟩
theorem write_W {d : Datum} {s : Bool} {N : Nat} (h : Stands d s N) (hN : N < 9007199254740992) : ∃ R, R < 9223372036854775808 ∧ double.write d = double.word s R ∧ Stands (double.read (double.word s R)) s N := by
  obtain ⟨k, rfl⟩ := h
  by_cases h0 : N = 0
  · subst h0
    refine ⟨0, by omega, by simp [Format.write, Format.nearest], ?_⟩
    rw [read_zero]
    exact stands_zero s 1074
  · obtain ⟨hL, h1, h2⟩ := pow52 h0 hN
    refine ⟨(N.log2 + 1022) * 4503599627370496 + N * 2 ^ (52 - N.log2), by omega, nearest_word h0 hN, ⟨52 - N.log2, ?_⟩⟩
    rw [read_word s N.log2 _ hL h1 h2]
    congr 1
    omega

/-- x is a word of the format, and it is the whole number z. -/
def F64 (x : Nat) (z : Int) : Prop := ∃ (s : Bool) (N : Nat), Stands (double.read x) s N ∧ z = sg s N

theorem write_F {d : Datum} {s : Bool} {N : Nat} (h : Stands d s N) (hN : N < 9007199254740992) : F64 (double.write d) (sg s N) := by
  obtain ⟨R, _, e, hS⟩ := write_W h hN
  exact ⟨s, N, by rw [e]; exact hS, rfl⟩

theorem sum_stands {d e : Datum} {s t : Bool} {N M : Nat} (h : Stands d s N) (g : Stands e t M) : ∃ (r : Datum) (u : Bool) (T : Nat), d.sum e = some r ∧ Stands r u T ∧ sg u T = sg s N + sg t M := by
  obtain ⟨k, rfl⟩ := h
  obtain ⟨l, rfl⟩ := g
  obtain ⟨K, hK⟩ : ∃ K, K = max k l := ⟨_, rfl⟩
  have hb : min (-(k : Int)) (-(l : Int)) = -(K : Int) := by omega
  have e1 : signed s (N * 2 ^ k) (-(k : Int) - -(K : Int)).toNat = sg s N * (2 ^ K : Nat) := by
    unfold signed sg
    rw [show (-(k : Int) - -(K : Int)).toNat = K - k by omega, Nat.shiftLeft_eq, Nat.mul_assoc, ← Nat.pow_add, show k + (K - k) = K by omega]
    cases s <;> simp [Int.neg_mul]
  have e2 : signed t (M * 2 ^ l) (-(l : Int) - -(K : Int)).toNat = sg t M * (2 ^ K : Nat) := by
    unfold signed sg
    rw [show (-(l : Int) - -(K : Int)).toNat = K - l by omega, Nat.shiftLeft_eq, Nat.mul_assoc, ← Nat.pow_add, show l + (K - l) = K by omega]
    cases t <;> simp [Int.neg_mul]
  have hp : (0 : Int) < ((2 ^ K : Nat) : Int) := Int.ofNat_lt.2 (Nat.two_pow_pos K)
  obtain ⟨T, hT⟩ : ∃ T, T = sg s N + sg t M := ⟨_, rfl⟩
  refine ⟨_, if T * (2 ^ K : Nat) = 0 then s && t else decide (T * (2 ^ K : Nat) < 0), T.natAbs, rfl, ⟨K, ?_⟩, ?_⟩
  · rw [hb, e1, e2, ← Int.add_mul, ← hT, Int.natAbs_mul, Int.natAbs_natCast]
  · rw [← hT]
    by_cases h0 : T = 0
    · subst h0; unfold sg; simp
    · have hne : T * ((2 ^ K : Nat) : Int) ≠ 0 := Int.mul_ne_zero h0 (by omega)
      rw [if_neg hne]
      unfold sg
      by_cases hn : T < 0
      · rw [decide_eq_true (Int.mul_neg_of_neg_of_pos hn hp)]; simp; omega
      · rw [decide_eq_false (by have := Int.mul_nonneg (show 0 ≤ T by omega) (Int.le_of_lt hp); omega)]; simp; omega
theorem product_stands {d e : Datum} {s t : Bool} {N M : Nat} (h : Stands d s N) (g : Stands e t M) : ∃ r : Datum, d.product e = some r ∧ Stands r (s ^^ t) (N * M) := by
  obtain ⟨k, rfl⟩ := h
  obtain ⟨l, rfl⟩ := g
  refine ⟨_, rfl, k + l, ?_⟩
  rw [Nat.pow_add]
  congr 1
  · simp only [Nat.mul_assoc, Nat.mul_left_comm]
  · omega
theorem sg_mul (s t : Bool) (N M : Nat) : sg (s ^^ t) (N * M) = sg s N * sg t M := by
  unfold sg
  cases s <;> cases t <;> simp [Int.neg_mul, Int.mul_neg]
theorem sg_abs (s : Bool) (N : Nat) : (sg s N).natAbs = N := by
  unfold sg; cases s <;> simp
theorem opposite_stands {d : Datum} {s : Bool} {N : Nat} (h : Stands d s N) : Stands d.opposite (!s) N := by
  obtain ⟨k, rfl⟩ := h
  exact ⟨k, rfl⟩
theorem sg_not (s : Bool) (N : Nat) : sg (!s) N = -sg s N := by
  unfold sg; cases s <;> simp

theorem F64.add {x y : Nat} {z t : Int} (h : F64 x z) (g : F64 y t) (hb : (z + t).natAbs < 9007199254740992) : ∃ r, double.add x y = some r ∧ F64 r (z + t) := by
  obtain ⟨s, N, h, rfl⟩ := h
  obtain ⟨s', N', g, rfl⟩ := g
  obtain ⟨r, u, T, h1, h2, h3⟩ := sum_stands h g
  refine ⟨double.write r, by unfold Format.add; rw [h1]; rfl, ?_⟩
  rw [← h3] at hb ⊢
  exact write_F h2 (by rwa [sg_abs] at hb)
theorem F64.sub {x y : Nat} {z t : Int} (h : F64 x z) (g : F64 y t) (hb : (z - t).natAbs < 9007199254740992) : ∃ r, double.sub x y = some r ∧ F64 r (z - t) := by
  obtain ⟨s, N, h, rfl⟩ := h
  obtain ⟨s', N', g, rfl⟩ := g
  obtain ⟨r, u, T, h1, h2, h3⟩ := sum_stands h (opposite_stands g)
  rw [sg_not, ← Int.sub_eq_add_neg] at h3
  refine ⟨double.write r, by unfold Format.sub; rw [h1]; rfl, ?_⟩
  rw [← h3] at hb ⊢
  exact write_F h2 (by rwa [sg_abs] at hb)
theorem F64.mul {x y : Nat} {z t : Int} (h : F64 x z) (g : F64 y t) (hb : (z * t).natAbs < 9007199254740992) : ∃ r, double.mul x y = some r ∧ F64 r (z * t) := by
  obtain ⟨s, N, h, rfl⟩ := h
  obtain ⟨s', N', g, rfl⟩ := g
  obtain ⟨r, h1, h2⟩ := product_stands h g
  refine ⟨double.write r, by unfold Format.mul; rw [h1]; rfl, ?_⟩
  rw [← sg_mul] at hb ⊢
  exact write_F h2 (by rwa [sg_abs] at hb)
theorem F64.ofInt {n : Int} (h : n.natAbs < 9007199254740992) : F64 (floatOfInt .f64 n) n := by
  have h1 : Stands (.number (decide (n < 0)) n.natAbs 0) (decide (n < 0)) n.natAbs := ⟨0, by simp⟩
  have := write_F h1 h
  have e : sg (decide (n < 0)) n.natAbs = n := by
    unfold sg
    by_cases hn : n < 0
    · rw [decide_eq_true hn]; simp; omega
    · rw [decide_eq_false hn]; simp; omega
  rw [e] at this
  exact this
theorem F64.toInt {x : Nat} {z : Int} (h : F64 x z) (h1 : -9223372036854775808 ≤ z) (h2 : z ≤ 9223372036854775807) : floatToIntVal .f64 x .i64 = some z := by
  obtain ⟨s, N, ⟨k, hk⟩, rfl⟩ := h
  have e : (FloatKind.f64.decode x).toInt .zero = some (sg s N) := by
    have hd : FloatKind.f64.decode x = .number s (N * 2 ^ k) (-(k : Int)) := hk
    rw [hd]
    unfold Datum.toInt Datum.integral
    simp only
    rw [show (-(k : Int)).toNat = 0 by omega, show (- -(k : Int)).toNat = k by omega, Nat.shiftLeft_zero, cut_exact .zero (.inr rfl)]
    unfold signed sg
    simp
  unfold floatToIntVal
  rw [e]
  exact if_pos ⟨h1, h2⟩
theorem xor_top {R n : Nat} (h : R < 2 ^ n) : R ^^^ 2 ^ n = 2 ^ n + R := by
  apply Nat.eq_of_testBit_eq
  intro i
  rw [Nat.testBit_xor, Nat.testBit_two_pow]
  rcases Nat.lt_trichotomy i n with hi | hi | hi
  · rw [Nat.testBit_two_pow_add_gt hi, decide_eq_false (by omega), Bool.xor_false]
  · subst hi
    rw [Nat.testBit_two_pow_add_eq, Nat.testBit_lt_two_pow h]; simp
  · have h1 : R < 2 ^ i := Nat.lt_of_lt_of_le h (Nat.pow_le_pow_right (by omega) (by omega))
    have h2 : 2 ^ n + R < 2 ^ i := by
      have : 2 ^ (n + 1) ≤ 2 ^ i := Nat.pow_le_pow_right (by omega) (by omega)
      rw [Nat.pow_succ] at this; omega
    rw [Nat.testBit_lt_two_pow h1, Nat.testBit_lt_two_pow h2, decide_eq_false (by omega)]; rfl
theorem read_sign {R : Nat} (h : R < 9223372036854775808) : double.read (double.word true R) = (double.read (double.word false R)).opposite := by
  unfold Format.read Format.word
  simp only [dbl_sign, if_true]
  rw [show (9223372036854775808 + R) / 9223372036854775808 % 2 = 1 by omega, show (9223372036854775808 + R) % 9223372036854775808 = R by omega]
  simp only [Bool.false_eq_true, if_false]
  rw [show R / 9223372036854775808 % 2 = 0 by omega, show R % 9223372036854775808 = R by omega]
  split
  · rfl
  · split
    · rfl
    · split <;> rfl
/-- A number that is not below 0, and its opposite. -/
theorem F64.ofNat (n : Nat) (h : n < 9007199254740992) : F64 (floatOfInt .f64 (n : Int)) (n : Int) ∧ F64 (Go.Op.negFloat .f64 (floatOfInt .f64 (n : Int))) (-(n : Int)) := by
  have h1 := F64.ofInt (n := (n : Int)) (by simpa using h)
  refine ⟨h1, ?_⟩
  have h2 : Stands (.number false n 0) false n := ⟨0, by simp⟩
  have h3 : floatOfInt .f64 (n : Int) = double.write (.number false n 0) := by
    show double.write (.number (decide ((n : Int) < 0)) (n : Int).natAbs 0) = _
    rw [decide_eq_false (by omega), Int.natAbs_natCast]
  obtain ⟨R, hR, hx, hS⟩ := write_W h2 h
  have h4 : Go.Op.negFloat .f64 (floatOfInt .f64 (n : Int)) = double.word true R := by
    rw [h3, hx]
    have hR' : R < 2 ^ 63 := by simpa using hR
    have := xor_top hR'
    show R ^^^ 2 ^ 63 = double.signWeight + R
    rw [this, dbl_sign]
  refine ⟨true, n, ?_, by simp [sg]⟩
  rw [h4, read_sign hR]
  exact opposite_stands hS
end Go.Proofs.YtmfpnbmfcoahbaaDoor
