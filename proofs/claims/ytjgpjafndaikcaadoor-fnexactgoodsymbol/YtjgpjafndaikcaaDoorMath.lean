/-
  Plain facts on decimal texts and on numbers in parts: nothing of the program's text is named here.
-/
namespace Go.Proofs.YtjgpjafndaikcaaDoor

/-- What a digit is worth. -/
def dv (c : UInt8) : Nat := c.toNat - 48
/-- Is it a digit? -/
def isDig (c : UInt8) : Bool := decide (48 ≤ c.toNat) && decide (c.toNat ≤ 57)
/-- The number that digits tell, the first one the greatest. -/
def dval (l : List UInt8) : Nat := l.foldl (fun n c => 10 * n + dv c) 0
/-- Digits alone, one at least, no needless nought. -/
def canonB (l : List UInt8) : Bool := l.all isDig && (match l with | [] => false | c :: m => !(c == 48) || m.isEmpty)
/-- A natural number's text. -/
def goodB (l : List UInt8) : Bool := decide (l.length ≤ 600) && canonB l

theorem isDig_bd {c : UInt8} (h : isDig c = true) : 48 ≤ c.toNat ∧ c.toNat ≤ 57 := by
  simpa [isDig] using h

theorem dv_lt {c : UInt8} (h : isDig c = true) : dv c < 10 := by
  have := isDig_bd h; unfold dv; omega

theorem dv_inj {c d : UInt8} (hc : isDig c = true) (hd : isDig d = true) (h : dv c = dv d) : c = d := by
  have := isDig_bd hc; have := isDig_bd hd; unfold dv at h
  apply UInt8.toNat_inj.1; omega

theorem dval_foldl (l : List UInt8) (n : Nat) : l.foldl (fun n c => 10 * n + dv c) n = n * 10 ^ l.length + dval l := by
  unfold dval
  induction l generalizing n with
  | nil => simp
  | cons c m ih =>
    simp only [List.foldl_cons, List.length_cons]
    rw [ih, ih (10 * 0 + dv c)]
    rw [Nat.pow_succ, Nat.add_mul, Nat.add_mul]
    have : 10 * n * 10 ^ m.length = n * (10 ^ m.length * 10) := by
      rw [Nat.mul_comm 10 n, Nat.mul_assoc, Nat.mul_comm 10]
    omega

theorem dval_nil : dval [] = 0 := rfl
theorem dval_cons (c : UInt8) (m : List UInt8) : dval (c :: m) = dv c * 10 ^ m.length + dval m := by
  have := dval_foldl m (10 * 0 + dv c)
  unfold dval at *
  simp only [List.foldl_cons]
  rw [this]; simp
theorem dval_append (l m : List UInt8) : dval (l ++ m) = dval l * 10 ^ m.length + dval m := by
  have := dval_foldl m (dval l)
  unfold dval at *
  rw [List.foldl_append, this]
theorem dval_snoc (l : List UInt8) (c : UInt8) : dval (l ++ [c]) = 10 * dval l + dv c := by
  unfold dval; rw [List.foldl_append]; rfl

theorem dval_lt (l : List UInt8) (h : l.all isDig = true) : dval l < 10 ^ l.length := by
  induction l with
  | nil => simp [dval]
  | cons c m ih =>
    simp only [List.all_cons, Bool.and_eq_true] at h
    have h1 := ih h.2
    have h2 := dv_lt h.1
    rw [dval_cons, List.length_cons, Nat.pow_succ]
    have : dv c * 10 ^ m.length ≤ 9 * 10 ^ m.length := Nat.mul_le_mul_right _ (by omega)
    omega

theorem dval_inj_len (l m : List UInt8) (hl : l.all isDig = true) (hm : m.all isDig = true) (hlen : l.length = m.length) (h : dval l = dval m) : l = m := by
  induction l generalizing m with
  | nil => cases m with
    | nil => rfl
    | cons _ _ => simp at hlen
  | cons c l ih => cases m with
    | nil => simp at hlen
    | cons d m =>
      simp only [List.all_cons, Bool.and_eq_true] at hl hm
      simp only [List.length_cons, Nat.add_right_cancel_iff] at hlen
      rw [dval_cons, dval_cons, hlen] at h
      have h1 := dval_lt l hl.2
      have h2 := dval_lt m hm.2
      rw [hlen] at h1
      have hq : dv c = dv d := by
        have e1 : (dv c * 10 ^ m.length + dval l) / 10 ^ m.length = dv c := by
          rw [Nat.mul_comm, Nat.mul_add_div (by exact Nat.pow_pos (by omega)), Nat.div_eq_of_lt h1]; rfl
        have e2 : (dv d * 10 ^ m.length + dval m) / 10 ^ m.length = dv d := by
          rw [Nat.mul_comm, Nat.mul_add_div (by exact Nat.pow_pos (by omega)), Nat.div_eq_of_lt h2]; rfl
        rw [← e1, ← e2, h]
      rw [hq] at h
      rw [dv_inj hl.1 hm.1 hq, ih m hl.2 hm.2 hlen (by omega)]

theorem canon_all {l : List UInt8} (h : canonB l = true) : l.all isDig = true := by
  simp only [canonB, Bool.and_eq_true] at h; exact h.1

theorem canon_cons {c : UInt8} {m : List UInt8} (h : canonB (c :: m) = true) : isDig c = true ∧ m.all isDig = true ∧ (c ≠ 48 ∨ m = []) := by
  simp only [canonB, List.all_cons, Bool.and_eq_true, Bool.or_eq_true, Bool.not_eq_true', beq_eq_false_iff_ne] at h
  exact ⟨h.1.1, h.1.2, by rcases h.2 with h | h; exact .inl h; exact .inr (by simpa using h)⟩

theorem canon_pos {l : List UInt8} (h : canonB l = true) : 1 ≤ l.length := by
  cases l with
  | nil => simp [canonB] at h
  | cons => simp

/-- A text with more than one digit tells at least what its length says. -/
theorem canon_low {l : List UInt8} (h : canonB l = true) (h1 : 1 < l.length) : 10 ^ (l.length - 1) ≤ dval l := by
  cases l with
  | nil => simp at h1
  | cons c m =>
    obtain ⟨hc, hm, hz⟩ := canon_cons h
    simp only [List.length_cons] at h1
    rcases hz with hz | hz
    · have : 1 ≤ dv c := by
        have := isDig_bd hc
        have hne : c.toNat ≠ 48 := fun e => hz (UInt8.toNat_inj.1 (by simpa using e))
        unfold dv; omega
      rw [dval_cons]
      simp only [List.length_cons, Nat.add_sub_cancel]
      have : 1 * 10 ^ m.length ≤ dv c * 10 ^ m.length := Nat.mul_le_mul_right _ this
      omega
    · subst hz; simp at h1

/-- Of two texts the longer one tells more. -/
theorem canon_len_lt {l m : List UInt8} (hl : canonB l = true) (hm : canonB m = true) (h : l.length < m.length) : dval l < dval m := by
  have h1 := dval_lt l (canon_all hl)
  have h2 := canon_low hm (by have := canon_pos hl; omega)
  have : 10 ^ l.length ≤ 10 ^ (m.length - 1) := Nat.pow_le_pow_right (by omega) (by omega)
  omega

theorem canon_inj {l m : List UInt8} (hl : canonB l = true) (hm : canonB m = true) (h : dval l = dval m) : l = m := by
  rcases Nat.lt_trichotomy l.length m.length with hlt | he | hlt
  · have := canon_len_lt hl hm hlt; omega
  · exact dval_inj_len l m (canon_all hl) (canon_all hm) he h
  · have := canon_len_lt hm hl hlt; omega

/-- It has at most k digits just where it is below 10 to the power of k. -/
theorem canon_len_le {l : List UInt8} (hl : canonB l = true) (k : Nat) (hk : 1 ≤ k) : l.length ≤ k ↔ dval l < 10 ^ k := by
  constructor
  · intro h
    have h1 := dval_lt l (canon_all hl)
    have : 10 ^ l.length ≤ 10 ^ k := Nat.pow_le_pow_right (by omega) h
    omega
  · intro h
    by_cases hc : l.length ≤ k
    · exact hc
    · have h2 := canon_low hl (by omega)
      have : 10 ^ k ≤ 10 ^ (l.length - 1) := Nat.pow_le_pow_right (by omega) (by omega)
      omega

/-- A text of 0 is the nought. -/
theorem canon_zero {l : List UInt8} (hl : canonB l = true) : dval l = 0 ↔ l = [48] := by
  constructor
  · intro h
    exact canon_inj hl (by decide) (by rw [h]; decide)
  · rintro rfl; decide

/-! ### Numbers in parts, the least first -/
/-- The number that parts tell, each worth B times the one ahead. -/
def vb (B : Int) : List Int → Int
  | [] => 0
  | x :: xs => x + B * vb B xs

theorem vb_append (B : Int) (l m : List Int) : vb B (l ++ m) = vb B l + B ^ l.length * vb B m := by
  induction l with
  | nil => simp [vb]
  | cons x l ih =>
    simp only [List.cons_append, vb, List.length_cons, ih, Int.pow_succ]
    rw [Int.mul_add, ← Int.mul_assoc, Int.mul_comm B (B ^ l.length)]; omega

theorem vb_snoc (B : Int) (l : List Int) (x : Int) : vb B (l ++ [x]) = vb B l + B ^ l.length * x := by
  rw [vb_append]; simp [vb]

end Go.Proofs.YtjgpjafndaikcaaDoor
