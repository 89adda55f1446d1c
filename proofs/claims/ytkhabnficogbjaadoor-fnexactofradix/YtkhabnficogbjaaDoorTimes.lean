/-
  What times of impl's nats answers.
-/
import Derived.Test.YtkhabnficogbjaaDoorMinus
namespace Go.Proofs.YtkhabnficogbjaaDoor
open Go.RowKit
set_option linter.unusedVariables false

/-- The products of the parts of p below i with those of q below j, added up from Z on. -/
def rowsTo (Z p q : List Int) (j : Nat) : Nat → List Int
  | 0 => Z
  | i + 1 => subTo (rowsTo Z p q j i) q (-(p.getD i 0)) i j

theorem rowsTo_len (Z p q : List Int) (j i : Nat) : (rowsTo Z p q j i).length = Z.length := by
  induction i with
  | zero => rfl
  | succ i ih => simp [rowsTo, subTo_len, ih]

theorem subTo_add (p q : List Int) (m : Int) (u j i : Nat) (hj : u + j ≤ p.length) : (subTo p q (-m) u j).getD i 0 = if u ≤ i ∧ i < u + j then p.getD i 0 + m * q.getD (i - u) 0 else p.getD i 0 := by
  rw [subTo_get _ _ _ _ _ _ hj]
  split
  · rw [Int.neg_mul]; omega
  · rfl

theorem mul_bd {x y B : Int} (hx : 0 ≤ x) (hx1 : x < B) (hy : 0 ≤ y) (hy1 : y < B) : 0 ≤ x * y ∧ x * y ≤ B * B := by
  refine ⟨Int.mul_nonneg hx hy, ?_⟩
  have h1 : x * y ≤ B * y := Int.mul_le_mul_of_nonneg_right (by omega) hy
  have h2 : B * y ≤ B * B := Int.mul_le_mul_of_nonneg_left (by omega) (by omega)
  omega

/-- Bounds while a row is being added. -/
theorem part_bd (Z p q : List Int) (B : Int) (j i t x : Nat) (hB : 0 < B) (hZ : ∀ x, Z.getD x 0 = 0) (hp : ∀ x, 0 ≤ p.getD x 0 ∧ p.getD x 0 < B) (hq : ∀ x, 0 ≤ q.getD x 0 ∧ q.getD x 0 < B) (hlen : i + j ≤ Z.length) (ht : i + t ≤ Z.length)
    (ih : ∀ x, 0 ≤ (rowsTo Z p q j i).getD x 0 ∧ (rowsTo Z p q j i).getD x 0 ≤ (i : Int) * (B * B)) :
    0 ≤ (subTo (rowsTo Z p q j i) q (-(p.getD i 0)) i t).getD x 0 ∧ (subTo (rowsTo Z p q j i) q (-(p.getD i 0)) i t).getD x 0 ≤ ((i + 1 : Nat) : Int) * (B * B) := by
  rw [subTo_add _ _ _ _ _ _ (by rw [rowsTo_len]; exact ht)]
  have h1 := ih x
  have h2 := hp i
  have h3 := hq (x - i)
  have h4 := mul_bd h2.1 h2.2 h3.1 h3.2
  have h5 : 0 ≤ B * B := Int.mul_nonneg (by omega) (by omega)
  have e : ((i + 1 : Nat) : Int) * (B * B) = (i : Int) * (B * B) + B * B := by rw [Int.natCast_add, Int.add_mul]; simp
  split <;> omega

theorem rowsTo_bd (Z p q : List Int) (B : Int) (j i : Nat) (hB : 0 < B) (hZ : ∀ x, Z.getD x 0 = 0) (hp : ∀ x, 0 ≤ p.getD x 0 ∧ p.getD x 0 < B) (hq : ∀ x, 0 ≤ q.getD x 0 ∧ q.getD x 0 < B) (hlen : i + j ≤ Z.length) :
    ∀ x, 0 ≤ (rowsTo Z p q j i).getD x 0 ∧ (rowsTo Z p q j i).getD x 0 ≤ (i : Int) * (B * B) := by
  induction i with
  | zero => intro x; simp only [rowsTo]; rw [hZ x]; simp
  | succ i ih => intro x; exact part_bd Z p q B j i j x hB hZ hp hq (by omega) (by omega) (ih (by omega))

theorem rowsTo_zero (Z p q : List Int) (j i : Nat) (hZ : ∀ x, Z.getD x 0 = 0) (hlen : i + j ≤ Z.length) : ∀ x, i + j ≤ x → (rowsTo Z p q j i).getD x 0 = 0 := by
  induction i with
  | zero => intro x _; exact hZ x
  | succ i ih =>
    intro x hx
    simp only [rowsTo]
    rw [subTo_get _ _ _ _ _ _ (by rw [rowsTo_len]; omega), if_neg (by omega)]
    exact ih (by omega) x (by omega)

theorem rowsTo_val (B : Int) (Z p q : List Int) (j i : Nat) (hZ : ∀ x, Z.getD x 0 = 0) (hlen : i + j ≤ Z.length + 1) (hl : ∀ k, k < i → k + j ≤ Z.length) (hi : i ≤ p.length) (hj : j ≤ q.length) : vb B (rowsTo Z p q j i) = vb B (p.take i) * vb B (q.take j) := by
  induction i with
  | zero => simp only [rowsTo]; rw [vb_zero _ _ hZ]; simp [vb]
  | succ i ih =>
    simp only [rowsTo]
    rw [subTo_val _ _ _ _ _ _ (by rw [rowsTo_len]; exact hl i (by omega)) hj, ih (by omega) (fun k hk => hl k (by omega)) (by omega), List.take_succ_eq_append_getElem (by omega), vb_snoc]
    have : p.getD i 0 = p[i] := by simp [List.getD, show i < p.length by omega]
    rw [this, List.length_take, Nat.min_eq_left (by omega), Int.add_mul, Int.neg_mul]
    have e : p[i] * (B ^ i * vb B (q.take j)) = B ^ i * p[i] * vb B (q.take j) := by
      rw [← Int.mul_assoc, Int.mul_comm p[i] (B ^ i)]
    omega

end Go.Proofs.YtkhabnficogbjaaDoor
