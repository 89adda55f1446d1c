/-
  Plain facts for chapter 8: roots, texts that are cut and shifted, powers by bits.
-/
import Derived.Test.YtmfpnbmfcoahbaaDoorPkMath
import Derived.Test.YtmfpnbmfcoahbaaDoorDec
import Derived.Test.YtmfpnbmfcoahbaaDoorRadixText
namespace Go.Proofs.YtmfpnbmfcoahbaaDoor
set_option linter.unusedVariables false

theorem newton_up {n x : Nat} (hx : 0 < x) : n < ((x + n / x) / 2 + 1) * ((x + n / x) / 2 + 1) := by
  have h1 : n < (n / x + 1) * x := by
    have := Nat.div_add_mod n x
    have h2 := Nat.mod_lt n hx
    have h3 : (n / x + 1) * x = x * (n / x) + x := by rw [Nat.add_mul, Nat.one_mul, Nat.mul_comm]
    omega
  generalize n / x = q at *
  obtain ⟨y, hy⟩ : ∃ y, y = (x + q) / 2 := ⟨_, rfl⟩
  rw [← hy]
  have h4 : x + (q + 1) ≤ 2 * (y + 1) := by omega
  have h5 : (x + (q + 1)) * (x + (q + 1)) ≤ (2 * (y + 1)) * (2 * (y + 1)) := Nat.mul_le_mul h4 h4
  have h6 : 4 * ((q + 1) * x) ≤ (x + (q + 1)) * (x + (q + 1)) := by
    generalize q + 1 = z at *
    rcases Nat.le_total x z with h | h
    · obtain ⟨d, rfl⟩ := Nat.le.dest h
      grind
    · obtain ⟨d, rfl⟩ := Nat.le.dest h
      grind
  have h7 : (2 * (y + 1)) * (2 * (y + 1)) = 4 * ((y + 1) * (y + 1)) := by grind
  omega

theorem newton_end {n x : Nat} (hx : 0 < x) (h : x ≤ (x + n / x) / 2) : x * x ≤ n := by
  have h1 : x ≤ n / x := by omega
  exact (Nat.le_div_iff_mul_le hx).1 h1

theorem newton_pos {n x : Nat} (hn : 0 < n) (hx : 0 < x) : 0 < (x + n / x) / 2 := by
  have := newton_up (n := n) hx
  rcases Nat.eq_zero_or_pos ((x + n / x) / 2) with h | h
  · rw [h] at this; omega
  · exact h

theorem root_one {n r s : Nat} (h1 : r * r ≤ n) (h2 : n < (r + 1) * (r + 1)) (h3 : s * s ≤ n) (h4 : n < (s + 1) * (s + 1)) : r = s := by
  rcases Nat.lt_trichotomy r s with h | h | h
  · have : (r + 1) * (r + 1) ≤ s * s := Nat.mul_le_mul h h
    omega
  · exact h
  · have : (s + 1) * (s + 1) ≤ r * r := Nat.mul_le_mul h h
    omega

theorem root_two {n r t s u : Nat} (h1 : r * r + t = n) (h2 : t ≤ 2 * r) (h3 : s * s + u = n) (h4 : u ≤ 2 * s) : r = s ∧ t = u := by
  have e1 : (r + 1) * (r + 1) = r * r + 2 * r + 1 := by grind
  have e2 : (s + 1) * (s + 1) = s * s + 2 * s + 1 := by grind
  have h := root_one (n := n) (r := r) (s := s) (by omega) (by omega) (by omega) (by omega)
  subst h
  exact ⟨rfl, by omega⟩

/-- A digit more of a root: what is left stays small. -/
theorem root_step {r t p d : Nat} (P : Nat) (h1 : r * r + t = P) (h2 : t ≤ 2 * r) (hp : p ≤ 99) (hd : (20 * r + d) * d ≤ 100 * t + p) (h9 : d ≤ 9) (hm : d = 9 ∨ 100 * t + p < (20 * r + (d + 1)) * (d + 1)) :
    (10 * r + d) * (10 * r + d) + (100 * t + p - (20 * r + d) * d) = 100 * P + p ∧ 100 * t + p - (20 * r + d) * d ≤ 2 * (10 * r + d) := by
  constructor
  · have : (10 * r + d) * (10 * r + d) = 100 * (r * r) + (20 * r + d) * d := by grind
    omega
  · rcases hm with rfl | hm
    · have : (20 * r + 9) * 9 = 180 * r + 81 := by grind
      omega
    · have : (20 * r + (d + 1)) * (d + 1) = (20 * r + d) * d + 20 * r + 2 * d + 1 := by grind
      omega
/-! ### Texts of digits that are cut and shifted -/
def zerosL (n : Nat) : List UInt8 := List.replicate n 48
theorem zeros_len (n : Nat) : (zerosL n).length = n := by simp [zerosL]
theorem zeros_dig (n : Nat) : (zerosL n).all isDig = true := by
  unfold zerosL
  rw [List.all_eq_true]
  intro x hx
  rw [List.eq_of_mem_replicate hx]; decide
theorem zeros_val (n : Nat) : dval (zerosL n) = 0 := by
  induction n with
  | zero => rfl
  | succ n ih =>
    show dval (48 :: zerosL n) = 0
    rw [dval_cons, ih]; simp [dv]
theorem shift_canon {l : List UInt8} (hl : canonB l = true) (h0 : dval l ≠ 0) (n : Nat) : canonB (l ++ zerosL n) = true ∧ dval (l ++ zerosL n) = dval l * 10 ^ n := by
  refine ⟨canon_append hl h0 (zeros_dig n), ?_⟩
  rw [dval_append, zeros_len, zeros_val, Nat.add_zero]

/-- The first digits of a text. -/
theorem canon_take {l : List UInt8} (hl : canonB l = true) (k : Nat) (hk : 0 < k) : canonB (l.take k) = true := by
  cases l with
  | nil => simp [canonB] at hl
  | cons c m =>
    cases k with
    | zero => omega
    | succ k =>
      obtain ⟨h1, h2, h3⟩ := canon_cons hl
      simp only [List.take_succ_cons, canonB, List.all_cons, h1, Bool.true_and, Bool.and_eq_true]
      refine ⟨?_, ?_⟩
      · rw [List.all_eq_true] at h2 ⊢
        intro x hx
        exact h2 x (List.mem_of_mem_take hx)
      · rcases h3 with h3 | h3
        · simp [h3]
        · simp [h3]
theorem cut_val {l : List UInt8} (hl : l.all isDig = true) (k m : Nat) (hk : k + m = l.length) : dval (l.take k) = dval l / 10 ^ m ∧ dval (l.drop k) = dval l % 10 ^ m := by
  have h1 : dval l = dval (l.take k) * 10 ^ m + dval (l.drop k) := by
    conv => lhs; rw [← List.take_append_drop k l]
    rw [dval_append, List.length_drop, show l.length - k = m by omega]
  have h2 : dval (l.drop k) < 10 ^ m := by
    have := dval_lt (l.drop k) (by rw [List.all_eq_true] at hl ⊢; intro x hx; exact hl x (List.mem_of_mem_drop hx))
    rwa [List.length_drop, show l.length - k = m by omega] at this
  have h3 : 0 < 10 ^ m := Nat.pow_pos (by decide)
  constructor
  · rw [h1, Nat.mul_comm, Nat.mul_add_div h3, Nat.div_eq_of_lt h2, Nat.add_zero]
  · rw [h1, Nat.mul_comm, Nat.mul_add_mod, Nat.mod_eq_of_lt h2]

/-- Needless noughts ahead fall. -/
theorem strip_canon {l : List UInt8} (hl : l.all isDig = true) (i : Nat) (hi : i < l.length) (hz : ∀ j, j < i → l.getD j 0 = 48) (hn : i + 1 < l.length → l.getD i 0 ≠ 48) :
    canonB (l.drop i) = true ∧ dval (l.drop i) = dval l := by
  have e : l.take i = zerosL i := by
    apply List.ext_getElem
    · rw [List.length_take, zeros_len]; omega
    · intro j h1 h2
      have h3 : j < i := by rw [zeros_len] at h2; exact h2
      have := hz j h3
      rw [List.getElem_take]
      simp [zerosL]
      simpa [List.getD, show j < l.length by omega] using this
  constructor
  · rw [List.drop_eq_getElem_cons hi]
    have hall : (l.drop i).all isDig = true := by rw [List.all_eq_true] at hl ⊢; intro x hx; exact hl x (List.mem_of_mem_drop hx)
    rw [List.drop_eq_getElem_cons hi] at hall
    simp only [canonB, hall, Bool.true_and]
    by_cases h : i + 1 < l.length
    · have := hn h
      have h4 : l[i] ≠ 48 := by simpa [List.getD, hi] using this
      simp [h4]
    · have : l.drop (i + 1) = [] := List.drop_eq_nil_of_le (by omega)
      simp [this]
  · conv => rhs; rw [← List.take_append_drop i l]
    rw [dval_append, e, zeros_val]; simp

/-! ### Powers by bits -/
theorem pow_sq (a m v : Nat) : (a ^ v % m) * (a ^ v % m) % m = a ^ (2 * v) % m := by
  rw [← Nat.mul_mod, ← Nat.pow_add, Nat.two_mul]
theorem pow_sq1 (a m v : Nat) : (a ^ (2 * v) % m) * (a % m) % m = a ^ (2 * v + 1) % m := by
  rw [← Nat.mul_mod, ← Nat.pow_succ]
/-- The bits ahead of the last k ones make this number. -/
theorem bit_step (n k : Nat) : n / 2 ^ k = 2 * (n / 2 ^ (k + 1)) + n / 2 ^ k % 2 := by
  rw [← div_step_pow n 2 k]; omega
theorem hx_bit (d : Nat) (h : d < 2) : hx d = if d = 1 then 49 else 48 := by
  have : d = 0 ∨ d = 1 := by omega
  rcases this with rfl | rfl <;> rfl
theorem InRad.bit {n : Nat} {s : ByteArray} (h : InRad 2 n s) : n / 2 ^ s.size = 0 ∧ ∀ (i : Nat) (hi : i < s.size), s[i] = if n / 2 ^ (s.size - (i + 1)) % 2 = 1 then 49 else 48 := by
  obtain ⟨j, hj, e⟩ := h
  have hs : s.size = j := by
    have h1 : s.data.toList.length = s.size := by simp
    rw [← h1, e, List.length_reverse, digs_len]
  refine ⟨by rw [hs]; exact hj.2.1, fun i hi => ?_⟩
  have h1 : s.data.toList[i]? = some s[i] := by
    rw [List.getElem?_eq_getElem (by simp; exact hi)]; rfl
  have h2 : i < j := by omega
  rw [e, List.getElem?_reverse (by rw [digs_len]; exact h2), digs_len, List.getElem?_eq_getElem (by rw [digs_len]; omega)] at h1
  have h3 : s[i] = hx (n / 2 ^ (j - 1 - i) % 2) := by
    have := Option.some.inj h1
    rw [← this]; simp [digs]
  rw [h3, hx_bit _ (Nat.mod_lt _ (by decide)), hs, show j - (i + 1) = j - 1 - i by omega]
end Go.Proofs.YtmfpnbmfcoahbaaDoor
