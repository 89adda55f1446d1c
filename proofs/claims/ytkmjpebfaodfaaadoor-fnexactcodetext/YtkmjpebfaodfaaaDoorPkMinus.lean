/-
  The texts Minus, NatOf, Times, TimesSmall, ReadDigits, one behind the other.
-/
import Derived.Test.YtkmjpebfaodfaaaDoorPkRead
import Derived.Great.BuildSlice
import Derived.Test.YtkmjpebfaodfaaaDoorPkLehmer

/-
  What minus of impl's nats answers.
-/
namespace Go.Proofs.YtkmjpebfaodfaaaDoor
open Go.RowKit
set_option linter.unusedVariables false

/-- m times the parts of q below j, moved up by u, taken from those of p. -/
def subTo (p q : List Int) (m : Int) (u : Nat) : Nat → List Int
  | 0 => p
  | j + 1 => (subTo p q m u j).set (u + j) ((subTo p q m u j).getD (u + j) 0 - m * q.getD j 0)

theorem subTo_len (p q : List Int) (m : Int) (u j : Nat) : (subTo p q m u j).length = p.length := by
  induction j with
  | zero => rfl
  | succ j ih => simp [subTo, ih]
theorem subTo_get (p q : List Int) (m : Int) (u j i : Nat) (hj : u + j ≤ p.length) : (subTo p q m u j).getD i 0 = if u ≤ i ∧ i < u + j then p.getD i 0 - m * q.getD (i - u) 0 else p.getD i 0 := by
  induction j with
  | zero => simp only [subTo]; rw [if_neg (by omega)]
  | succ j ih =>
    unfold subTo
    rw [getD_set _ _ _ _ (by rw [subTo_len]; omega)]
    by_cases e : i = u + j
    · subst e
      rw [if_pos rfl, ih (by omega), if_neg (by omega), if_pos (by omega)]
      rw [show u + j - u = j by omega]
    · rw [if_neg e, ih (by omega)]
      by_cases h : u ≤ i ∧ i < u + j
      · rw [if_pos h, if_pos (by omega)]
      · rw [if_neg h, if_neg (by omega)]
theorem subTo_val (B : Int) (p q : List Int) (m : Int) (u j : Nat) (hj : u + j ≤ p.length) (hq : j ≤ q.length) : vb B (subTo p q m u j) = vb B p - m * (B ^ u * vb B (q.take j)) := by
  induction j with
  | zero => simp [subTo, vb]
  | succ j ih =>
    unfold subTo
    rw [vb_set _ _ _ _ (by rw [subTo_len]; omega), ih (by omega) (by omega), List.take_succ_eq_append_getElem (by omega), vb_snoc]
    have : q.getD j 0 = q[j] := by simp [List.getD, show j < q.length by omega]
    rw [this, List.length_take, Nat.min_eq_left (by omega), Int.pow_add]
    have e : (subTo p q m u j).getD (u + j) 0 - m * q[j] - (subTo p q m u j).getD (u + j) 0 = -(m * q[j]) := by omega
    rw [e, Int.mul_add, Int.mul_add, Int.mul_neg]
    have e2 : B ^ u * B ^ j * (m * q[j]) = m * (B ^ u * (B ^ j * q[j])) := by
      rw [Int.mul_assoc, ← Int.mul_assoc (B ^ j) m, Int.mul_comm (B ^ j) m, Int.mul_assoc m, ← Int.mul_assoc (B ^ u) m, Int.mul_comm (B ^ u) m, Int.mul_assoc m]
    omega

end Go.Proofs.YtkmjpebfaodfaaaDoor

/-
  What natOf of impl answers: a nat of an int that is not below 0.
-/
namespace Go.Proofs.YtkmjpebfaodfaaaDoor
open Go.RowKit
set_option linter.unusedVariables false

theorem set_zP (s : Int) (i : Nat) : (zP.set 0 s).getD i 0 = if i = 0 then s else 0 := by
  rw [getD_set _ _ _ _ (by rw [zP_len]; decide), zP_get]

end Go.Proofs.YtkmjpebfaodfaaaDoor

/-
  What times of impl's nats answers.
-/
namespace Go.Proofs.YtkmjpebfaodfaaaDoor
open Go.RowKit
set_option linter.unusedVariables false

/-- The products of the parts of p below i with those of q below j, added up from Z on. -/
def rowsTo (Z p q : List Int) (j : Nat) : Nat → List Int
  | 0 => Z
  | i + 1 => subTo (rowsTo Z p q j i) q (-(p.getD i 0)) i j

theorem rowsTo_len (Z p q : List Int) (j i : Nat) : (rowsTo Z p q j i).length = Z.length := by
  induction i with
  | zero => rfl
  | succ i ih => simp [rowsTo, subTo_len, ih]

theorem subTo_add (p q : List Int) (m : Int) (u j i : Nat) (hj : u + j ≤ p.length) : (subTo p q (-m) u j).getD i 0 = if u ≤ i ∧ i < u + j then p.getD i 0 + m * q.getD (i - u) 0 else p.getD i 0 := by
  rw [subTo_get _ _ _ _ _ _ hj]
  split
  · rw [Int.neg_mul]; omega
  · rfl

theorem mul_bd {x y B : Int} (hx : 0 ≤ x) (hx1 : x < B) (hy : 0 ≤ y) (hy1 : y < B) : 0 ≤ x * y ∧ x * y ≤ B * B := by
  refine ⟨Int.mul_nonneg hx hy, ?_⟩
  have h1 : x * y ≤ B * y := Int.mul_le_mul_of_nonneg_right (by omega) hy
  have h2 : B * y ≤ B * B := Int.mul_le_mul_of_nonneg_left (by omega) (by omega)
  omega

/-- Bounds while a row is being added. -/
theorem part_bd (Z p q : List Int) (B : Int) (j i t x : Nat) (hB : 0 < B) (hZ : ∀ x, Z.getD x 0 = 0) (hp : ∀ x, 0 ≤ p.getD x 0 ∧ p.getD x 0 < B) (hq : ∀ x, 0 ≤ q.getD x 0 ∧ q.getD x 0 < B) (hlen : i + j ≤ Z.length) (ht : i + t ≤ Z.length)
    (ih : ∀ x, 0 ≤ (rowsTo Z p q j i).getD x 0 ∧ (rowsTo Z p q j i).getD x 0 ≤ (i : Int) * (B * B)) :
    0 ≤ (subTo (rowsTo Z p q j i) q (-(p.getD i 0)) i t).getD x 0 ∧ (subTo (rowsTo Z p q j i) q (-(p.getD i 0)) i t).getD x 0 ≤ ((i + 1 : Nat) : Int) * (B * B) := by
  rw [subTo_add _ _ _ _ _ _ (by rw [rowsTo_len]; exact ht)]
  have h1 := ih x
  have h2 := hp i
  have h3 := hq (x - i)
  have h4 := mul_bd h2.1 h2.2 h3.1 h3.2
  have h5 : 0 ≤ B * B := Int.mul_nonneg (by omega) (by omega)
  have e : ((i + 1 : Nat) : Int) * (B * B) = (i : Int) * (B * B) + B * B := by rw [Int.natCast_add, Int.add_mul]; simp
  split <;> omega

theorem rowsTo_bd (Z p q : List Int) (B : Int) (j i : Nat) (hB : 0 < B) (hZ : ∀ x, Z.getD x 0 = 0) (hp : ∀ x, 0 ≤ p.getD x 0 ∧ p.getD x 0 < B) (hq : ∀ x, 0 ≤ q.getD x 0 ∧ q.getD x 0 < B) (hlen : i + j ≤ Z.length) :
    ∀ x, 0 ≤ (rowsTo Z p q j i).getD x 0 ∧ (rowsTo Z p q j i).getD x 0 ≤ (i : Int) * (B * B) := by
  induction i with
  | zero => intro x; simp only [rowsTo]; rw [hZ x]; simp
  | succ i ih => intro x; exact part_bd Z p q B j i j x hB hZ hp hq (by omega) (by omega) (ih (by omega))

theorem rowsTo_zero (Z p q : List Int) (j i : Nat) (hZ : ∀ x, Z.getD x 0 = 0) (hlen : i + j ≤ Z.length) : ∀ x, i + j ≤ x → (rowsTo Z p q j i).getD x 0 = 0 := by
  induction i with
  | zero => intro x _; exact hZ x
  | succ i ih =>
    intro x hx
    simp only [rowsTo]
    rw [subTo_get _ _ _ _ _ _ (by rw [rowsTo_len]; omega), if_neg (by omega)]
    exact ih (by omega) x (by omega)

theorem rowsTo_val (B : Int) (Z p q : List Int) (j i : Nat) (hZ : ∀ x, Z.getD x 0 = 0) (hlen : i + j ≤ Z.length + 1) (hl : ∀ k, k < i → k + j ≤ Z.length) (hi : i ≤ p.length) (hj : j ≤ q.length) : vb B (rowsTo Z p q j i) = vb B (p.take i) * vb B (q.take j) := by
  induction i with
  | zero => simp only [rowsTo]; rw [vb_zero _ _ hZ]; simp [vb]
  | succ i ih =>
    simp only [rowsTo]
    rw [subTo_val _ _ _ _ _ _ (by rw [rowsTo_len]; exact hl i (by omega)) hj, ih (by omega) (fun k hk => hl k (by omega)) (by omega), List.take_succ_eq_append_getElem (by omega), vb_snoc]
    have : p.getD i 0 = p[i] := by simp [List.getD, show i < p.length by omega]
    rw [this, List.length_take, Nat.min_eq_left (by omega), Int.add_mul, Int.neg_mul]
    have e : p[i] * (B ^ i * vb B (q.take j)) = B ^ i * p[i] * vb B (q.take j) := by
      rw [← Int.mul_assoc, Int.mul_comm p[i] (B ^ i)]
    omega

end Go.Proofs.YtkmjpebfaodfaaaDoor

/-
  What timesSmall of impl's nats answers.
-/
namespace Go.Proofs.YtkmjpebfaodfaaaDoor
open Go.RowKit
set_option linter.unusedVariables false

theorem times_self (x b : Int) : x - -(b - 1) * x = x * b := by
  rw [Int.neg_mul, Int.sub_mul, Int.one_mul, Int.mul_comm b x]; omega

end Go.Proofs.YtkmjpebfaodfaaaDoor

/-
  What readDigits of impl answers.
-/
namespace Go.Proofs.YtkmjpebfaodfaaaDoor
open Go.RowKit
set_option linter.unusedVariables false

/-- At most 1200 digits just where there are at most 200 parts. -/
theorem Rep.fits2 {n k : Nat} {p : List Int} (h : Rep n k p) : k ≤ 200 ↔ n < 10 ^ 1200 := by
  have e : ((10 ^ 1200 : Nat) : Int) = 1000000 ^ 200 := by decide +kernel
  constructor
  · intro hk
    have h1 := h.lt
    have : (1000000 : Int) ^ k ≤ 1000000 ^ 200 := ipow_le hk
    omega
  · intro hn
    by_cases hk : k ≤ 200
    · exact hk
    · have h2 := h.ge (by omega)
      have : (1000000 : Int) ^ 200 ≤ 1000000 ^ (k - 1) := ipow_le (by omega)
      omega

/-- Are these 1..2000 digits of the radix, which tell a number of at most 1200 digits? -/
def rdOk (b : Nat) (s : ByteArray) : Bool := (decide (1 ≤ s.size) && decide (s.size ≤ 2000)) && (rdigs b s.data.toList && decide (rval b s.data.toList < 10 ^ 1200))

theorem rd_bad {b : Nat} {s : ByteArray} (i : Nat) (h : i < s.size) (hb : ¬ dg s[i] < b) : rdOk b s = false := by
  have : rdigs b s.data.toList = false := by
    unfold rdigs
    rw [List.all_eq_false]
    exact ⟨s.data.toList[i]'(by simpa using h), List.getElem_mem _, fun h => hb (of_decide_eq_true h)⟩
  unfold rdOk; rw [this, Bool.false_and, Bool.and_false]

theorem rd_long {b : Nat} {s : ByteArray} (i : Nat) (hb : 1 ≤ b) (hv : ¬ rval b (s.data.toList.take i) < 10 ^ 1200) : rdOk b s = false := by
  have h1 := rval_mono b hb (s.data.toList.take i) (s.data.toList.drop i)
  rw [List.take_append_drop] at h1
  have h2 : ¬ rval b s.data.toList < 10 ^ 1200 := fun h => hv (Nat.lt_of_le_of_lt h1 h)
  unfold rdOk; rw [decide_eq_false h2, Bool.and_false, Bool.and_false]

theorem rd_take (b : Nat) (s : ByteArray) (i : Nat) (h : i < s.size) : rval b (s.data.toList.take (i + 1)) = b * rval b (s.data.toList.take i) + dg s[i] := by
  rw [take_snoc s i h, rval_snoc]

theorem zero_rep : Rep 0 0 zP :=
  ⟨zP_len, by omega, fun i => by rw [zP_get]; omega, fun i => by rw [zP_get]; omega, fun i _ => zP_get i, fun h => absurd h (by omega), by rw [vb_zero _ _ zP_get]; rfl⟩

end Go.Proofs.YtkmjpebfaodfaaaDoor
