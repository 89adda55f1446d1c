/-
  Numbers in parts of six digits: plain facts.
-/
import Derived.Test.YtjgpjafndaikcaaDoorMath
namespace Go.Proofs.YtjgpjafndaikcaaDoor

theorem ipow_le {a b : Nat} (h : a ≤ b) : (1000000 : Int) ^ a ≤ 1000000 ^ b := by
  have := Nat.pow_le_pow_right (n := 1000000) (by omega) h
  have e : ∀ k : Nat, ((1000000 ^ k : Nat) : Int) = (1000000 : Int) ^ k := fun k => by simp
  rw [← e, ← e]; exact Int.ofNat_le.2 this

theorem vb_set (B : Int) (p : List Int) (j : Nat) (v : Int) (h : j < p.length) : vb B (p.set j v) = vb B p + B ^ j * (v - p.getD j 0) := by
  induction p generalizing j with
  | nil => simp at h
  | cons x p ih =>
    cases j with
    | zero => simp [vb]; omega
    | succ j =>
      simp only [List.length_cons, Nat.add_lt_add_iff_right] at h
      have := ih j h
      simp only [List.set_cons_succ, vb, List.getD_cons_succ, this]
      rw [Int.pow_succ, Int.mul_add, ← Int.mul_assoc, Int.mul_comm B (B ^ j)]; omega

theorem vb_zero (B : Int) (p : List Int) (h : ∀ i, p.getD i 0 = 0) : vb B p = 0 := by
  induction p with
  | nil => rfl
  | cons x p ih =>
    have h0 := h 0
    have := ih (fun i => by simpa using h (i + 1))
    simp only [vb, this]; simp at h0; simp [h0]

/-- A number, its count of parts and its parts. -/
structure Rep (n : Nat) (k : Nat) (p : List Int) : Prop where
  len : p.length = 204
  le : k ≤ 204
  lo : ∀ i, 0 ≤ p.getD i 0
  hi : ∀ i, p.getD i 0 < 1000000
  out : ∀ i, k ≤ i → p.getD i 0 = 0
  top : 0 < k → p.getD (k - 1) 0 ≠ 0
  val : vb 1000000 p = (n : Int)

/-- Parts within their bounds tell less than one part more. -/
theorem vb_lt (B : Int) (hB : 0 < B) (p : List Int) (k : Nat) (hlo : ∀ i, 0 ≤ p.getD i 0) (hhi : ∀ i, p.getD i 0 < B) (hout : ∀ i, k ≤ i → p.getD i 0 = 0) : 0 ≤ vb B p ∧ vb B p < B ^ k := by
  induction p generalizing k with
  | nil => simp only [vb]; exact ⟨Int.le_refl _, Int.pow_pos hB⟩
  | cons x p ih =>
    have h0 := hlo 0
    have h1 := hhi 0
    simp only [List.getD_cons_zero] at h0 h1
    cases k with
    | zero =>
      have : vb B (x :: p) = 0 := vb_zero B _ (fun i => hout i (Nat.zero_le _))
      rw [this]; simp
    | succ k =>
      have := ih k (fun i => by simpa using hlo (i + 1)) (fun i => by simpa using hhi (i + 1)) (fun i hi => by simpa using hout (i + 1) (by omega))
      simp only [vb, Int.pow_succ]
      have hm : B * (vb B p + 1) ≤ B * B ^ k := Int.mul_le_mul_of_nonneg_left (by omega) (by omega)
      have hn : 0 ≤ B * vb B p := Int.mul_nonneg (by omega) this.1
      rw [Int.mul_add, Int.mul_comm B (B ^ k)] at hm
      exact ⟨by omega, by omega⟩

/-- A part that is not 0 tells at least its place. -/
theorem vb_ge (B : Int) (hB : 0 < B) (p : List Int) (j : Nat) (hlo : ∀ i, 0 ≤ p.getD i 0) (hj : 1 ≤ p.getD j 0) : B ^ j ≤ vb B p := by
  induction p generalizing j with
  | nil => simp at hj
  | cons x p ih =>
    have h0 := hlo 0
    simp only [List.getD_cons_zero] at h0
    have hlo' : ∀ i, 0 ≤ p.getD i 0 := fun i => by simpa using hlo (i + 1)
    cases j with
    | zero =>
      simp only [List.getD_cons_zero] at hj
      have hv : 0 ≤ vb B p := by
        clear ih hlo h0 hj
        induction p with
        | nil => simp [vb]
        | cons y q ihq =>
          have h0 := hlo' 0
          have := ihq (fun i => by simpa using hlo' (i + 1))
          simp only [vb]; simp only [List.getD_cons_zero] at h0
          have := Int.mul_nonneg (Int.le_of_lt hB) this
          omega
      have := Int.mul_nonneg (Int.le_of_lt hB) hv
      simp only [vb, Int.pow_zero]; omega
    | succ j =>
      have := ih j hlo' (by simpa using hj)
      have hm : B * B ^ j ≤ B * vb B p := Int.mul_le_mul_of_nonneg_left this (by omega)
      simp only [vb, Int.pow_succ]
      rw [Int.mul_comm] at hm
      rw [Int.mul_comm]
      rw [Int.mul_comm] at hm
      omega

theorem Rep.lt {n k : Nat} {p : List Int} (h : Rep n k p) : (n : Int) < 1000000 ^ k := by
  have := vb_lt 1000000 (by omega) p k h.lo h.hi h.out
  rw [h.val] at this; exact this.2
theorem Rep.ge {n k : Nat} {p : List Int} (h : Rep n k p) (hk : 0 < k) : (1000000 : Int) ^ (k - 1) ≤ n := by
  have := vb_ge 1000000 (by omega) p (k - 1) h.lo (by have := h.lo (k - 1); have := h.top hk; omega)
  rw [h.val] at this; exact this

/-- More parts, more. -/
theorem Rep.cnt_lt {n k m j : Nat} {p q : List Int} (h : Rep n k p) (g : Rep m j q) (hlt : k < j) : n < m := by
  have h1 := h.lt
  have h2 := g.ge (by omega)
  have : (1000000 : Int) ^ k ≤ 1000000 ^ (j - 1) := ipow_le (by omega)
  omega

/-- The parts below the place i, and the others. -/
theorem vb_split (B : Int) (p : List Int) (i : Nat) (h : i ≤ p.length) : vb B p = vb B (p.take i) + B ^ i * vb B (p.drop i) := by
  conv => lhs; rw [← List.take_append_drop i p]
  rw [vb_append]; simp [Nat.min_eq_left h]

theorem getD_take (p : List Int) (i j : Nat) : (p.take i).getD j 0 = if j < i then p.getD j 0 else 0 := by
  simp only [List.getD, List.getElem?_take]
  split <;> simp

theorem getD_drop (p : List Int) (i j : Nat) : (p.drop i).getD j 0 = p.getD (i + j) 0 := by
  simp only [List.getD, List.getElem?_drop]

/-- Alike above the place i, and the one's part there less: it is less. -/
theorem vb_less (B : Int) (hB : 0 < B) (p q : List Int) (i : Nat) (hl : p.length = q.length) (hi : i < p.length) (plo : ∀ i, 0 ≤ p.getD i 0) (phi : ∀ i, p.getD i 0 < B) (qlo : ∀ i, 0 ≤ q.getD i 0) (qhi : ∀ i, q.getD i 0 < B)
    (ab : ∀ j, i < j → p.getD j 0 = q.getD j 0) (hlt : p.getD i 0 < q.getD i 0) : vb B p < vb B q := by
  have hdrop : p.drop (i + 1) = q.drop (i + 1) := by
    apply List.ext_getElem
    · simp [hl]
    · intro n h1 h2
      have := ab (i + 1 + n) (by omega)
      simp only [List.length_drop] at h1 h2
      simp only [List.getElem_drop]
      simpa [List.getD, List.getElem?_eq_getElem (show i + 1 + n < p.length by omega), List.getElem?_eq_getElem (show i + 1 + n < q.length by omega)] using this
  have dp : p.drop i = p.getD i 0 :: p.drop (i + 1) := by
    rw [List.drop_eq_getElem_cons hi]; simp [List.getD, hi]
  have dq : q.drop i = q.getD i 0 :: q.drop (i + 1) := by
    rw [List.drop_eq_getElem_cons (by omega)]; simp [List.getD, show i < q.length by omega]
  rw [vb_split B p i (by omega), vb_split B q i (by omega), dp, dq, hdrop]
  simp only [vb]
  have b1 := vb_lt B hB (p.take i) i (fun j => by rw [getD_take]; split; exact plo j; omega) (fun j => by rw [getD_take]; split; exact phi j; exact hB) (fun j hj => by rw [getD_take, if_neg (by omega)])
  have b2 := vb_lt B hB (q.take i) i (fun j => by rw [getD_take]; split; exact qlo j; omega) (fun j => by rw [getD_take]; split; exact qhi j; exact hB) (fun j hj => by rw [getD_take, if_neg (by omega)])
  have hT : 0 < B ^ i := Int.pow_pos hB
  have hm : B ^ i * (p.getD i 0 + B * vb B (q.drop (i + 1)) + 1) ≤ B ^ i * (q.getD i 0 + B * vb B (q.drop (i + 1))) := Int.mul_le_mul_of_nonneg_left (by omega) (by omega)
  rw [Int.mul_add] at hm
  omega

theorem Rep.ext {n m k : Nat} {p q : List Int} (h : Rep n k p) (g : Rep m k q) (e : ∀ j, j < k → p.getD j 0 = q.getD j 0) : n = m := by
  have : p = q := by
    apply List.ext_getElem (by rw [h.len, g.len])
    intro i h1 h2
    have : p.getD i 0 = q.getD i 0 := by
      by_cases hi : i < k
      · exact e i hi
      · rw [h.out i (by omega), g.out i (by omega)]
    simpa [List.getD, h1, h2] using this
  have h1 := h.val
  have h2 := g.val
  rw [this] at h1; omega

/-- At most 600 digits just where there are at most 100 parts. -/
theorem Rep.fits {n k : Nat} {p : List Int} (h : Rep n k p) : k ≤ 100 ↔ n < 10 ^ 600 := by
  have e : ((10 ^ 600 : Nat) : Int) = 1000000 ^ 100 := by decide +kernel
  constructor
  · intro hk
    have h1 := h.lt
    have : (1000000 : Int) ^ k ≤ 1000000 ^ 100 := ipow_le hk
    omega
  · intro hn
    by_cases hk : k ≤ 100
    · exact hk
    · have h2 := h.ge (by omega)
      have : (1000000 : Int) ^ 100 ≤ 1000000 ^ (k - 1) := ipow_le (by omega)
      omega

end Go.Proofs.YtjgpjafndaikcaaDoor
