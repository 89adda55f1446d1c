/-
  The texts Math, Rep, MulMath, NumMath, one behind the other.
-/


/-
  Plain facts on decimal texts and on numbers in parts: nothing of the program's text is named here.
-/
namespace Go.Proofs.YtmfpnbmfcoahbaaDoor

/-- What a digit is worth. -/
def dv (c : UInt8) : Nat := c.toNat - 48
/-- Is it a digit? -/
def isDig (c : UInt8) : Bool := decide (48 ≤ c.toNat) && decide (c.toNat ≤ 57)
/-- The number that digits tell, the first one the greatest. -/
def dval (l : List UInt8) : Nat := l.foldl (fun n c => 10 * n + dv c) 0
/-- Digits alone, one at least, no needless nought. -/
def canonB (l : List UInt8) : Bool := l.all isDig && (match l with | [] => false | c :: m => !(c == 48) || m.isEmpty)
/-- A natural number's text. -/
def goodB (l : List UInt8) : Bool := decide (l.length ≤ 600) && canonB l

theorem isDig_bd {c : UInt8} (h : isDig c = true) : 48 ≤ c.toNat ∧ c.toNat ≤ 57 := by
  simpa [isDig] using h

theorem dv_lt {c : UInt8} (h : isDig c = true) : dv c < 10 := by
  have := isDig_bd h; unfold dv; omega

theorem dv_inj {c d : UInt8} (hc : isDig c = true) (hd : isDig d = true) (h : dv c = dv d) : c = d := by
  have := isDig_bd hc; have := isDig_bd hd; unfold dv at h
  apply UInt8.toNat_inj.1; omega

theorem dval_foldl (l : List UInt8) (n : Nat) : l.foldl (fun n c => 10 * n + dv c) n = n * 10 ^ l.length + dval l := by
  unfold dval
  induction l generalizing n with
  | nil => simp
  | cons c m ih =>
    simp only [List.foldl_cons, List.length_cons]
    rw [ih, ih (10 * 0 + dv c)]
    rw [Nat.pow_succ, Nat.add_mul, Nat.add_mul]
    have : 10 * n * 10 ^ m.length = n * (10 ^ m.length * 10) := by
      rw [Nat.mul_comm 10 n, Nat.mul_assoc, Nat.mul_comm 10]
    omega

theorem dval_nil : dval [] = 0 := rfl
theorem dval_cons (c : UInt8) (m : List UInt8) : dval (c :: m) = dv c * 10 ^ m.length + dval m := by
  have := dval_foldl m (10 * 0 + dv c)
  unfold dval at *
  simp only [List.foldl_cons]
  rw [this]; simp
theorem dval_append (l m : List UInt8) : dval (l ++ m) = dval l * 10 ^ m.length + dval m := by
  have := dval_foldl m (dval l)
  unfold dval at *
  rw [List.foldl_append, this]
theorem dval_snoc (l : List UInt8) (c : UInt8) : dval (l ++ [c]) = 10 * dval l + dv c := by
  unfold dval; rw [List.foldl_append]; rfl

theorem dval_lt (l : List UInt8) (h : l.all isDig = true) : dval l < 10 ^ l.length := by
  induction l with
  | nil => simp [dval]
  | cons c m ih =>
    simp only [List.all_cons, Bool.and_eq_true] at h
    have h1 := ih h.2
    have h2 := dv_lt h.1
    rw [dval_cons, List.length_cons, Nat.pow_succ]
    have : dv c * 10 ^ m.length ≤ 9 * 10 ^ m.length := Nat.mul_le_mul_right _ (by omega)
    omega

theorem dval_inj_len (l m : List UInt8) (hl : l.all isDig = true) (hm : m.all isDig = true) (hlen : l.length = m.length) (h : dval l = dval m) : l = m := by
  induction l generalizing m with
  | nil => cases m with
    | nil => rfl
    | cons _ _ => simp at hlen
  | cons c l ih => cases m with
    | nil => simp at hlen
    | cons d m =>
      simp only [List.all_cons, Bool.and_eq_true] at hl hm
      simp only [List.length_cons, Nat.add_right_cancel_iff] at hlen
      rw [dval_cons, dval_cons, hlen] at h
      have h1 := dval_lt l hl.2
      have h2 := dval_lt m hm.2
      rw [hlen] at h1
      have hq : dv c = dv d := by
        have e1 : (dv c * 10 ^ m.length + dval l) / 10 ^ m.length = dv c := by
          rw [Nat.mul_comm, Nat.mul_add_div (by exact Nat.pow_pos (by omega)), Nat.div_eq_of_lt h1]; rfl
        have e2 : (dv d * 10 ^ m.length + dval m) / 10 ^ m.length = dv d := by
          rw [Nat.mul_comm, Nat.mul_add_div (by exact Nat.pow_pos (by omega)), Nat.div_eq_of_lt h2]; rfl
        rw [← e1, ← e2, h]
      rw [hq] at h
      rw [dv_inj hl.1 hm.1 hq, ih m hl.2 hm.2 hlen (by omega)]

theorem canon_all {l : List UInt8} (h : canonB l = true) : l.all isDig = true := by
  simp only [canonB, Bool.and_eq_true] at h; exact h.1

theorem canon_cons {c : UInt8} {m : List UInt8} (h : canonB (c :: m) = true) : isDig c = true ∧ m.all isDig = true ∧ (c ≠ 48 ∨ m = []) := by
  simp only [canonB, List.all_cons, Bool.and_eq_true, Bool.or_eq_true, Bool.not_eq_true', beq_eq_false_iff_ne] at h
  exact ⟨h.1.1, h.1.2, by rcases h.2 with h | h; exact .inl h; exact .inr (by simpa using h)⟩

theorem canon_pos {l : List UInt8} (h : canonB l = true) : 1 ≤ l.length := by
  cases l with
  | nil => simp [canonB] at h
  | cons => simp

/-- A text with more than one digit tells at least what its length says. -/
theorem canon_low {l : List UInt8} (h : canonB l = true) (h1 : 1 < l.length) : 10 ^ (l.length - 1) ≤ dval l := by
  cases l with
  | nil => simp at h1
  | cons c m =>
    obtain ⟨hc, hm, hz⟩ := canon_cons h
    simp only [List.length_cons] at h1
    rcases hz with hz | hz
    · have : 1 ≤ dv c := by
        have := isDig_bd hc
        have hne : c.toNat ≠ 48 := fun e => hz (UInt8.toNat_inj.1 (by simpa using e))
        unfold dv; omega
      rw [dval_cons]
      simp only [List.length_cons, Nat.add_sub_cancel]
      have : 1 * 10 ^ m.length ≤ dv c * 10 ^ m.length := Nat.mul_le_mul_right _ this
      omega
    · subst hz; simp at h1

/-- Of two texts the longer one tells more. -/
theorem canon_len_lt {l m : List UInt8} (hl : canonB l = true) (hm : canonB m = true) (h : l.length < m.length) : dval l < dval m := by
  have h1 := dval_lt l (canon_all hl)
  have h2 := canon_low hm (by have := canon_pos hl; omega)
  have : 10 ^ l.length ≤ 10 ^ (m.length - 1) := Nat.pow_le_pow_right (by omega) (by omega)
  omega

theorem canon_inj {l m : List UInt8} (hl : canonB l = true) (hm : canonB m = true) (h : dval l = dval m) : l = m := by
  rcases Nat.lt_trichotomy l.length m.length with hlt | he | hlt
  · have := canon_len_lt hl hm hlt; omega
  · exact dval_inj_len l m (canon_all hl) (canon_all hm) he h
  · have := canon_len_lt hm hl hlt; omega

/-- It has at most k digits just where it is below 10 to the power of k. -/
theorem canon_len_le {l : List UInt8} (hl : canonB l = true) (k : Nat) (hk : 1 ≤ k) : l.length ≤ k ↔ dval l < 10 ^ k := by
  constructor
  · intro h
    have h1 := dval_lt l (canon_all hl)
    have : 10 ^ l.length ≤ 10 ^ k := Nat.pow_le_pow_right (by omega) h
    omega
  · intro h
    by_cases hc : l.length ≤ k
    · exact hc
    · have h2 := canon_low hl (by omega)
      have : 10 ^ k ≤ 10 ^ (l.length - 1) := Nat.pow_le_pow_right (by omega) (by omega)
      omega

/-- A text of 0 is the nought. -/
theorem canon_zero {l : List UInt8} (hl : canonB l = true) : dval l = 0 ↔ l = [48] := by
  constructor
  · intro h
    exact canon_inj hl (by decide) (by rw [h]; decide)
  · rintro rfl; decide

/-! ### Numbers in parts, the least first -/
/-- The number that parts tell, each worth B times the one ahead. -/
def vb (B : Int) : List Int → Int
  | [] => 0
  | x :: xs => x + B * vb B xs

theorem vb_append (B : Int) (l m : List Int) : vb B (l ++ m) = vb B l + B ^ l.length * vb B m := by
  induction l with
  | nil => simp [vb]
  | cons x l ih =>
    simp only [List.cons_append, vb, List.length_cons, ih, Int.pow_succ]
    rw [Int.mul_add, ← Int.mul_assoc, Int.mul_comm B (B ^ l.length)]; omega

theorem vb_snoc (B : Int) (l : List Int) (x : Int) : vb B (l ++ [x]) = vb B l + B ^ l.length * x := by
  rw [vb_append]; simp [vb]

end Go.Proofs.YtmfpnbmfcoahbaaDoor

/-
  Numbers in parts of six digits: plain facts.
-/
namespace Go.Proofs.YtmfpnbmfcoahbaaDoor

theorem ipow_le {a b : Nat} (h : a ≤ b) : (1000000 : Int) ^ a ≤ 1000000 ^ b := by
  have := Nat.pow_le_pow_right (n := 1000000) (by omega) h
  have e : ∀ k : Nat, ((1000000 ^ k : Nat) : Int) = (1000000 : Int) ^ k := fun k => by simp
  rw [← e, ← e]; exact Int.ofNat_le.2 this

theorem vb_set (B : Int) (p : List Int) (j : Nat) (v : Int) (h : j < p.length) : vb B (p.set j v) = vb B p + B ^ j * (v - p.getD j 0) := by
  induction p generalizing j with
  | nil => simp at h
  | cons x p ih =>
    cases j with
    | zero => simp [vb]; omega
    | succ j =>
      simp only [List.length_cons, Nat.add_lt_add_iff_right] at h
      have := ih j h
      simp only [List.set_cons_succ, vb, List.getD_cons_succ, this]
      rw [Int.pow_succ, Int.mul_add, ← Int.mul_assoc, Int.mul_comm B (B ^ j)]; omega

theorem vb_zero (B : Int) (p : List Int) (h : ∀ i, p.getD i 0 = 0) : vb B p = 0 := by
  induction p with
  | nil => rfl
  | cons x p ih =>
    have h0 := h 0
    have := ih (fun i => by simpa using h (i + 1))
    simp only [vb, this]; simp at h0; simp [h0]

/-- A number, its count of parts and its parts. -/
structure Rep (n : Nat) (k : Nat) (p : List Int) : Prop where
  len : p.length = 204
  le : k ≤ 204
  lo : ∀ i, 0 ≤ p.getD i 0
  hi : ∀ i, p.getD i 0 < 1000000
  out : ∀ i, k ≤ i → p.getD i 0 = 0
  top : 0 < k → p.getD (k - 1) 0 ≠ 0
  val : vb 1000000 p = (n : Int)

/-- Parts within their bounds tell less than one part more. -/
theorem vb_lt (B : Int) (hB : 0 < B) (p : List Int) (k : Nat) (hlo : ∀ i, 0 ≤ p.getD i 0) (hhi : ∀ i, p.getD i 0 < B) (hout : ∀ i, k ≤ i → p.getD i 0 = 0) : 0 ≤ vb B p ∧ vb B p < B ^ k := by
  induction p generalizing k with
  | nil => simp only [vb]; exact ⟨Int.le_refl _, Int.pow_pos hB⟩
  | cons x p ih =>
    have h0 := hlo 0
    have h1 := hhi 0
    simp only [List.getD_cons_zero] at h0 h1
    cases k with
    | zero =>
      have : vb B (x :: p) = 0 := vb_zero B _ (fun i => hout i (Nat.zero_le _))
      rw [this]; simp
    | succ k =>
      have := ih k (fun i => by simpa using hlo (i + 1)) (fun i => by simpa using hhi (i + 1)) (fun i hi => by simpa using hout (i + 1) (by omega))
      simp only [vb, Int.pow_succ]
      have hm : B * (vb B p + 1) ≤ B * B ^ k := Int.mul_le_mul_of_nonneg_left (by omega) (by omega)
      have hn : 0 ≤ B * vb B p := Int.mul_nonneg (by omega) this.1
      rw [Int.mul_add, Int.mul_comm B (B ^ k)] at hm
      exact ⟨by omega, by omega⟩

/-- A part that is not 0 tells at least its place. -/
theorem vb_ge (B : Int) (hB : 0 < B) (p : List Int) (j : Nat) (hlo : ∀ i, 0 ≤ p.getD i 0) (hj : 1 ≤ p.getD j 0) : B ^ j ≤ vb B p := by
  induction p generalizing j with
  | nil => simp at hj
  | cons x p ih =>
    have h0 := hlo 0
    simp only [List.getD_cons_zero] at h0
    have hlo' : ∀ i, 0 ≤ p.getD i 0 := fun i => by simpa using hlo (i + 1)
    cases j with
    | zero =>
      simp only [List.getD_cons_zero] at hj
      have hv : 0 ≤ vb B p := by
        clear ih hlo h0 hj
        induction p with
        | nil => simp [vb]
        | cons y q ihq =>
          have h0 := hlo' 0
          have := ihq (fun i => by simpa using hlo' (i + 1))
          simp only [vb]; simp only [List.getD_cons_zero] at h0
          have := Int.mul_nonneg (Int.le_of_lt hB) this
          omega
      have := Int.mul_nonneg (Int.le_of_lt hB) hv
      simp only [vb, Int.pow_zero]; omega
    | succ j =>
      have := ih j hlo' (by simpa using hj)
      have hm : B * B ^ j ≤ B * vb B p := Int.mul_le_mul_of_nonneg_left this (by omega)
      simp only [vb, Int.pow_succ]
      rw [Int.mul_comm] at hm
      rw [Int.mul_comm]
      rw [Int.mul_comm] at hm
      omega

theorem Rep.lt {n k : Nat} {p : List Int} (h : Rep n k p) : (n : Int) < 1000000 ^ k := by
  have := vb_lt 1000000 (by omega) p k h.lo h.hi h.out
  rw [h.val] at this; exact this.2
theorem Rep.ge {n k : Nat} {p : List Int} (h : Rep n k p) (hk : 0 < k) : (1000000 : Int) ^ (k - 1) ≤ n := by
  have := vb_ge 1000000 (by omega) p (k - 1) h.lo (by have := h.lo (k - 1); have := h.top hk; omega)
  rw [h.val] at this; exact this

/-- More parts, more. -/
theorem Rep.cnt_lt {n k m j : Nat} {p q : List Int} (h : Rep n k p) (g : Rep m j q) (hlt : k < j) : n < m := by
  have h1 := h.lt
  have h2 := g.ge (by omega)
  have : (1000000 : Int) ^ k ≤ 1000000 ^ (j - 1) := ipow_le (by omega)
  omega

/-- The parts below the place i, and the others. -/
theorem vb_split (B : Int) (p : List Int) (i : Nat) (h : i ≤ p.length) : vb B p = vb B (p.take i) + B ^ i * vb B (p.drop i) := by
  conv => lhs; rw [← List.take_append_drop i p]
  rw [vb_append]; simp [Nat.min_eq_left h]

theorem getD_take (p : List Int) (i j : Nat) : (p.take i).getD j 0 = if j < i then p.getD j 0 else 0 := by
  simp only [List.getD, List.getElem?_take]
  split <;> simp

theorem getD_drop (p : List Int) (i j : Nat) : (p.drop i).getD j 0 = p.getD (i + j) 0 := by
  simp only [List.getD, List.getElem?_drop]

/-- Alike above the place i, and the one's part there less: it is less. -/
theorem vb_less (B : Int) (hB : 0 < B) (p q : List Int) (i : Nat) (hl : p.length = q.length) (hi : i < p.length) (plo : ∀ i, 0 ≤ p.getD i 0) (phi : ∀ i, p.getD i 0 < B) (qlo : ∀ i, 0 ≤ q.getD i 0) (qhi : ∀ i, q.getD i 0 < B)
    (ab : ∀ j, i < j → p.getD j 0 = q.getD j 0) (hlt : p.getD i 0 < q.getD i 0) : vb B p < vb B q := by
  have hdrop : p.drop (i + 1) = q.drop (i + 1) := by
    apply List.ext_getElem
    · simp [hl]
    · intro n h1 h2
      have := ab (i + 1 + n) (by omega)
      simp only [List.length_drop] at h1 h2
      simp only [List.getElem_drop]
      simpa [List.getD, List.getElem?_eq_getElem (show i + 1 + n < p.length by omega), List.getElem?_eq_getElem (show i + 1 + n < q.length by omega)] using this
  have dp : p.drop i = p.getD i 0 :: p.drop (i + 1) := by
    rw [List.drop_eq_getElem_cons hi]; simp [List.getD, hi]
  have dq : q.drop i = q.getD i 0 :: q.drop (i + 1) := by
    rw [List.drop_eq_getElem_cons (by omega)]; simp [List.getD, show i < q.length by omega]
  rw [vb_split B p i (by omega), vb_split B q i (by omega), dp, dq, hdrop]
  simp only [vb]
  have b1 := vb_lt B hB (p.take i) i (fun j => by rw [getD_take]; split; exact plo j; omega) (fun j => by rw [getD_take]; split; exact phi j; exact hB) (fun j hj => by rw [getD_take, if_neg (by omega)])
  have b2 := vb_lt B hB (q.take i) i (fun j => by rw [getD_take]; split; exact qlo j; omega) (fun j => by rw [getD_take]; split; exact qhi j; exact hB) (fun j hj => by rw [getD_take, if_neg (by omega)])
  have hT : 0 < B ^ i := Int.pow_pos hB
  have hm : B ^ i * (p.getD i 0 + B * vb B (q.drop (i + 1)) + 1) ≤ B ^ i * (q.getD i 0 + B * vb B (q.drop (i + 1))) := Int.mul_le_mul_of_nonneg_left (by omega) (by omega)
  rw [Int.mul_add] at hm
  omega

theorem Rep.ext {n m k : Nat} {p q : List Int} (h : Rep n k p) (g : Rep m k q) (e : ∀ j, j < k → p.getD j 0 = q.getD j 0) : n = m := by
  have : p = q := by
    apply List.ext_getElem (by rw [h.len, g.len])
    intro i h1 h2
    have : p.getD i 0 = q.getD i 0 := by
      by_cases hi : i < k
      · exact e i hi
      · rw [h.out i (by omega), g.out i (by omega)]
    simpa [List.getD, h1, h2] using this
  have h1 := h.val
  have h2 := g.val
  rw [this] at h1; omega

/-- At most 600 digits just where there are at most 100 parts. -/
theorem Rep.fits {n k : Nat} {p : List Int} (h : Rep n k p) : k ≤ 100 ↔ n < 10 ^ 600 := by
  have e : ((10 ^ 600 : Nat) : Int) = 1000000 ^ 100 := by decide +kernel
  constructor
  · intro hk
    have h1 := h.lt
    have : (1000000 : Int) ^ k ≤ 1000000 ^ 100 := ipow_le hk
    omega
  · intro hn
    by_cases hk : k ≤ 100
    · exact hk
    · have h2 := h.ge (by omega)
      have : (1000000 : Int) ^ 100 ≤ 1000000 ^ (k - 1) := ipow_le (by omega)
      omega

end Go.Proofs.YtmfpnbmfcoahbaaDoor

/-
  How many parts a product has: plain facts.
-/
namespace Go.Proofs.YtmfpnbmfcoahbaaDoor
set_option linter.unusedVariables false

theorem Rep.ltN {n k : Nat} {p : List Int} (h : Rep n k p) : n < 1000000 ^ k := by
  have h1 := h.lt
  rw [show (1000000 : Int) ^ k = ((1000000 ^ k : Nat) : Int) by rw [Int.natCast_pow]; rfl] at h1
  exact Int.ofNat_lt.1 h1
theorem Rep.geN {n k : Nat} {p : List Int} (h : Rep n k p) (hk : 0 < k) : 1000000 ^ (k - 1) ≤ n := by
  have h1 := h.ge hk
  rw [show (1000000 : Int) ^ (k - 1) = ((1000000 ^ (k - 1) : Nat) : Int) by rw [Int.natCast_pow]; rfl] at h1
  exact Int.ofNat_le.1 h1
theorem mul_cnt {B n m k j i : Nat} (hB : 1 ≤ B) (hn : n < B ^ k) (hm : m < B ^ j) (hi : B ^ (i - 1) ≤ n * m) : i ≤ k + j := by
  by_cases h : i ≤ k + j
  · exact h
  · have h1 : B ^ (k + j) ≤ B ^ (i - 1) := Nat.pow_le_pow_right hB (by omega)
    have h2 : n * m < B ^ (k + j) := by rw [Nat.pow_add]; exact Nat.mul_lt_mul'' hn hm
    omega
theorem Rep.mul_used {n m k j i : Nat} {p q r : List Int} (hP : Rep n k p) (hQ : Rep m j q) (hR : Rep (n * m) i r) : i ≤ k + j := by
  by_cases h : 0 < i
  · exact mul_cnt (by decide) hP.ltN hQ.ltN (hR.geN h)
  · omega
end Go.Proofs.YtmfpnbmfcoahbaaDoor

/-
  Products and sums of fractions in lowest terms: plain facts.
-/
namespace Go.Proofs.YtmfpnbmfcoahbaaDoor
set_option linter.unusedVariables false

theorem times_gcd {n m n' m' : Nat} (h : Nat.gcd n m = 1) (h' : Nat.gcd n' m' = 1) (hm : 0 < m) (hm' : 0 < m') :
    Nat.gcd (n * n') (m * m') = Nat.gcd n m' * Nat.gcd n' m ∧ n * n' / (Nat.gcd n m' * Nat.gcd n' m) = n / Nat.gcd n m' * (n' / Nat.gcd n' m) ∧ m * m' / (Nat.gcd n m' * Nat.gcd n' m) = m' / Nat.gcd n m' * (m / Nat.gcd n' m) := by
  have ga : 0 < Nat.gcd n m' := Nat.gcd_pos_of_pos_right n hm'
  have gb : 0 < Nat.gcd n' m := Nat.gcd_pos_of_pos_right n' hm
  obtain ⟨x, hx⟩ := Nat.gcd_dvd_left n m'
  obtain ⟨y, hy⟩ := Nat.gcd_dvd_right n m'
  obtain ⟨u, hu⟩ := Nat.gcd_dvd_left n' m
  obtain ⟨v, hv⟩ := Nat.gcd_dvd_right n' m
  have cxy : Nat.Coprime x y := by
    have := Nat.coprime_div_gcd_div_gcd ga
    have e1 : n / Nat.gcd n m' = x := Nat.div_eq_of_eq_mul_right ga hx
    have e2 : m' / Nat.gcd n m' = y := Nat.div_eq_of_eq_mul_right ga hy
    rw [e1, e2] at this; exact this
  have cuv : Nat.Coprime u v := by
    have := Nat.coprime_div_gcd_div_gcd gb
    have e1 : n' / Nat.gcd n' m = u := Nat.div_eq_of_eq_mul_right gb hu
    have e2 : m / Nat.gcd n' m = v := Nat.div_eq_of_eq_mul_right gb hv
    rw [e1, e2] at this; exact this
  have cxv : Nat.Coprime x v := Nat.Coprime.coprime_dvd_left ⟨Nat.gcd n m', by rw [Nat.mul_comm]; exact hx⟩ (Nat.Coprime.coprime_dvd_right ⟨Nat.gcd n' m, by rw [Nat.mul_comm]; exact hv⟩ h)
  have cuy : Nat.Coprime u y := Nat.Coprime.coprime_dvd_left ⟨Nat.gcd n' m, by rw [Nat.mul_comm]; exact hu⟩ (Nat.Coprime.coprime_dvd_right ⟨Nat.gcd n m', by rw [Nat.mul_comm]; exact hy⟩ h')
  have e1 : n / Nat.gcd n m' = x := Nat.div_eq_of_eq_mul_right ga hx
  have e2 : m' / Nat.gcd n m' = y := Nat.div_eq_of_eq_mul_right ga hy
  have e3 : n' / Nat.gcd n' m = u := Nat.div_eq_of_eq_mul_right gb hu
  have e4 : m / Nat.gcd n' m = v := Nat.div_eq_of_eq_mul_right gb hv
  rw [e1, e2, e3, e4]
  generalize Nat.gcd n m' = a at *
  generalize Nat.gcd n' m = b at *
  have f1 : n * n' = (a * b) * (x * u) := by rw [hx, hu]; grind
  have f2 : m * m' = (a * b) * (y * v) := by rw [hv, hy]; grind
  have hab : 0 < a * b := Nat.mul_pos ga gb
  have cop : Nat.Coprime (x * u) (y * v) := Nat.Coprime.mul_left (Nat.Coprime.mul_right cxy cxv) (Nat.Coprime.mul_right cuy cuv)
  refine ⟨?_, ?_, ?_⟩
  · rw [f1, f2, Nat.gcd_mul_left]
    have : Nat.gcd (x * u) (y * v) = 1 := cop
    rw [this, Nat.mul_one]
  · rw [f1]; exact Nat.mul_div_cancel_left _ hab
  · rw [f2]; exact Nat.mul_div_cancel_left _ hab

/-- Of a sum: the divisors that top and bottom have in common are those of the top and the bottoms' common divisor. -/
theorem plus_gcd {n m n' m' : Nat} (h : Nat.gcd n m = 1) (h' : Nat.gcd n' m' = 1) (hm : 0 < m) (hm' : 0 < m') (s s' : Int) (hs : s = 1 ∨ s = -1) (hs' : s' = 1 ∨ s' = -1) (t : Int)
    (ht : t = s * (n : Int) * ((m' / Nat.gcd m m' : Nat) : Int) + s' * (n' : Int) * ((m / Nat.gcd m m' : Nat) : Int)) :
    s * (n : Int) * (m' : Int) + s' * (n' : Int) * (m : Int) = (Nat.gcd m m' : Int) * t ∧
    Nat.gcd (Nat.gcd m m' * t.natAbs) (m * m') = Nat.gcd m m' * Nat.gcd t.natAbs (Nat.gcd m m') ∧
    Nat.gcd m m' * t.natAbs / (Nat.gcd m m' * Nat.gcd t.natAbs (Nat.gcd m m')) = t.natAbs / Nat.gcd t.natAbs (Nat.gcd m m') ∧
    m * m' / (Nat.gcd m m' * Nat.gcd t.natAbs (Nat.gcd m m')) = Nat.gcd m m' / Nat.gcd t.natAbs (Nat.gcd m m') * (m / Nat.gcd m m') * (m' / Nat.gcd m m') := by
  have gg : 0 < Nat.gcd m m' := Nat.gcd_pos_of_pos_right m hm'
  obtain ⟨p, hp⟩ := Nat.gcd_dvd_left m m'
  obtain ⟨q, hq⟩ := Nat.gcd_dvd_right m m'
  have cpq : Nat.Coprime p q := by
    have := Nat.coprime_div_gcd_div_gcd gg
    have e1 : m / Nat.gcd m m' = p := Nat.div_eq_of_eq_mul_right gg hp
    have e2 : m' / Nat.gcd m m' = q := Nat.div_eq_of_eq_mul_right gg hq
    rw [e1, e2] at this; exact this
  have e1 : m / Nat.gcd m m' = p := Nat.div_eq_of_eq_mul_right gg hp
  have e2 : m' / Nat.gcd m m' = q := Nat.div_eq_of_eq_mul_right gg hq
  rw [e1, e2] at ht
  rw [e1, e2]
  have cnp : Nat.Coprime n p := Nat.Coprime.coprime_dvd_right ⟨Nat.gcd m m', by rw [Nat.mul_comm]; exact hp⟩ h
  have cnq : Nat.Coprime n' q := Nat.Coprime.coprime_dvd_right ⟨Nat.gcd m m', by rw [Nat.mul_comm]; exact hq⟩ h'
  generalize Nat.gcd m m' = g at *
  -- t has no divisor in common with p, nor with q
  have ctp : Nat.Coprime t.natAbs p := by
    have hd1 : Nat.gcd t.natAbs p ∣ n * q := by
      have d1 : (Nat.gcd t.natAbs p : Int) ∣ t := Int.dvd_natAbs.1 (Int.ofNat_dvd.2 (Nat.gcd_dvd_left _ _))
      have d2 : (Nat.gcd t.natAbs p : Int) ∣ (p : Int) := Int.ofNat_dvd.2 (Nat.gcd_dvd_right _ _)
      have d3 : (Nat.gcd t.natAbs p : Int) ∣ s * (n : Int) * (q : Int) := by
        have : s * (n : Int) * (q : Int) = t - s' * (n' : Int) * (p : Int) := by rw [ht]; omega
        rw [this]; exact Int.dvd_sub d1 (Int.dvd_mul_of_dvd_right d2)
      have d4 : (Nat.gcd t.natAbs p : Int) ∣ (n : Int) * (q : Int) := by
        rcases hs with rfl | rfl
        · simpa [Int.one_mul] using d3
        · have := Int.dvd_neg.2 d3
          have e : -(-1 * (n : Int) * (q : Int)) = (n : Int) * (q : Int) := by grind
          rw [e] at this; exact this
      have : ((n * q : Nat) : Int) = (n : Int) * (q : Int) := by simp
      rw [← this] at d4
      exact Int.ofNat_dvd.1 d4
    have hd2 : Nat.gcd t.natAbs p ∣ p := Nat.gcd_dvd_right _ _
    have cop : Nat.Coprime (n * q) p := Nat.Coprime.mul_left cnp cpq.symm
    exact Nat.eq_one_of_dvd_one (by rw [← show Nat.gcd (n * q) p = 1 from cop]; exact Nat.dvd_gcd hd1 hd2)
  have ctq : Nat.Coprime t.natAbs q := by
    have hd1 : Nat.gcd t.natAbs q ∣ n' * p := by
      have d1 : (Nat.gcd t.natAbs q : Int) ∣ t := Int.dvd_natAbs.1 (Int.ofNat_dvd.2 (Nat.gcd_dvd_left _ _))
      have d2 : (Nat.gcd t.natAbs q : Int) ∣ (q : Int) := Int.ofNat_dvd.2 (Nat.gcd_dvd_right _ _)
      have d3 : (Nat.gcd t.natAbs q : Int) ∣ s' * (n' : Int) * (p : Int) := by
        have : s' * (n' : Int) * (p : Int) = t - s * (n : Int) * (q : Int) := by rw [ht]; omega
        rw [this]; exact Int.dvd_sub d1 (Int.dvd_mul_of_dvd_right d2)
      have d4 : (Nat.gcd t.natAbs q : Int) ∣ (n' : Int) * (p : Int) := by
        rcases hs' with rfl | rfl
        · simpa [Int.one_mul] using d3
        · have := Int.dvd_neg.2 d3
          have e : -(-1 * (n' : Int) * (p : Int)) = (n' : Int) * (p : Int) := by grind
          rw [e] at this; exact this
      have : ((n' * p : Nat) : Int) = (n' : Int) * (p : Int) := by simp
      rw [← this] at d4
      exact Int.ofNat_dvd.1 d4
    have hd2 : Nat.gcd t.natAbs q ∣ q := Nat.gcd_dvd_right _ _
    have cop : Nat.Coprime (n' * p) q := Nat.Coprime.mul_left cnq cpq
    exact Nat.eq_one_of_dvd_one (by rw [← show Nat.gcd (n' * p) q = 1 from cop]; exact Nat.dvd_gcd hd1 hd2)
  have f1 : m * m' = g * (g * (p * q)) := by
    have : m * m' = (g * p) * (g * q) := by rw [← hp, ← hq]
    rw [this]; grind
  have f2 : Nat.gcd t.natAbs (g * (p * q)) = Nat.gcd t.natAbs g := by
    have cpq' : Nat.Coprime t.natAbs (p * q) := Nat.Coprime.mul_right ctp ctq
    exact Nat.Coprime.gcd_mul_right_cancel_right g cpq'.symm
  have hg0 : 0 < Nat.gcd t.natAbs g := Nat.gcd_pos_of_pos_right _ gg
  refine ⟨?_, ?_, ?_, ?_⟩
  · have h1 : (m' : Int) = (g : Int) * (q : Int) := by rw [← Int.natCast_mul, ← hq]
    have h2 : (m : Int) = (g : Int) * (p : Int) := by rw [← Int.natCast_mul, ← hp]
    rw [ht, h1, h2]; grind
  · rw [f1, Nat.gcd_mul_left, f2]
  · exact Nat.mul_div_mul_left _ _ gg
  · rw [f1, Nat.mul_div_mul_left _ _ gg]
    obtain ⟨r, hr⟩ := Nat.gcd_dvd_right t.natAbs g
    have e3 : g / Nat.gcd t.natAbs g = r := Nat.div_eq_of_eq_mul_right hg0 hr
    rw [e3]
    have e4 : g * (p * q) = Nat.gcd t.natAbs g * (r * (p * q)) := by conv => lhs; rw [hr]; rw [Nat.mul_assoc]
    rw [e4, Nat.mul_div_cancel_left _ hg0, Nat.mul_assoc]
end Go.Proofs.YtmfpnbmfcoahbaaDoor
