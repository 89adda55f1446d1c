/-
  What sumTop of impl's fractions answers: the top of a sum over the product of both bottoms; by complex numbers where both are small.
-/
import Derived.Test.YthbnacikomimfaaDoorPkNumTimes
import Derived.Test.YthbnacikomimfaaDoorPkCutNum
namespace Go.Proofs.YthbnacikomimfaaDoor
open Go.RowKit
set_option linter.unusedVariables false

theorem Rep.used_le {N i : Nat} {r : List Int} (h : Rep N i r) (K : Nat) (hN : N < 1000000 ^ K) : i ≤ K := by
  by_cases hi : i ≤ K
  · exact hi
  · have h1 := h.geN (by omega)
    have h2 : 1000000 ^ K ≤ 1000000 ^ (i - 1) := Nat.pow_le_pow_right (by decide) (by omega)
    omega
theorem topZ_used {g : Bool} {n m : Nat} {g' : Bool} {n' m' k j k' j' i : Nat} {p q p' q' r : List Int} (hP : Rep n k p) (hQ : Rep m j q) (hP' : Rep n' k' p') (hQ' : Rep m' j' q') (hk : k ≤ 100) (hj : j ≤ 100) (hk' : k' ≤ 100) (hj' : j' ≤ 100) (hR : Rep (topZ g n m g' n' m').natAbs i r) : i ≤ 201 := by
  have up : ∀ {x y : Nat} {l : List Int}, Rep x y l → y ≤ 100 → x < 1000000 ^ 100 := fun h hy => Nat.lt_of_lt_of_le h.ltN (Nat.pow_le_pow_right (by decide) hy)
  have h1 := Nat.mul_lt_mul'' (up hP hk) (up hQ' hj')
  have h2 := Nat.mul_lt_mul'' (up hP' hk') (up hQ hj)
  have h3 := topZ_abs g n m g' n' m'
  apply hR.used_le
  rw [show 201 = 100 + 100 + 1 by rfl, Nat.pow_succ, Nat.pow_add]
  generalize 1000000 ^ 100 * 1000000 ^ 100 = X at h1 h2 ⊢
  omega

theorem cmul_small {x y x' y' : Nat} {a b c d : Int} (h1 : F64 x a) (h2 : F64 y b) (h3 : F64 x' c) (h4 : F64 y' d) (ha : a.natAbs < 1000000) (hb : b.natAbs < 1000000) (hc : c.natAbs < 1000000) (hd : d.natAbs < 1000000) : ∃ re im, cMulBits x y x' y' = some (re, im) ∧ F64 im (b * c + d * a) ∧ (b * c + d * a).natAbs < 2000000000000 := by
  have key : ∀ {u v : Int}, u.natAbs < 1000000 → v.natAbs < 1000000 → (u * v).natAbs < 1000000000000 := fun {u v} hu hv => by
    rw [Int.natAbs_mul]; exact Nat.mul_lt_mul'' hu hv
  have k1 := key ha hc
  have k2 := key hb hd
  have k3 := key ha hd
  have k4 := key hb hc
  obtain ⟨ac, e1, f1⟩ := F64.mul h1 h3 (by omega)
  obtain ⟨bd, e2, f2⟩ := F64.mul h2 h4 (by omega)
  obtain ⟨re, e3, f3⟩ := F64.sub f1 f2 (by omega)
  obtain ⟨ad, e4, f4⟩ := F64.mul h1 h4 (by omega)
  obtain ⟨bc, e5, f5⟩ := F64.mul h2 h3 (by omega)
  obtain ⟨im, e6, f6⟩ := F64.add f4 f5 (by omega)
  have hz : a * d + b * c = b * c + d * a := by rw [Int.mul_comm a d]; omega
  refine ⟨re, im, ?_, by rw [← hz]; exact f6, by rw [← hz]; omega⟩
  have g1 : floatBits .mul .f64 x x' = some ac := e1
  have g2 : floatBits .mul .f64 y y' = some bd := e2
  have g3 : floatBits .sub .f64 ac bd = some re := e3
  have g4 : floatBits .mul .f64 x y' = some ad := e4
  have g5 : floatBits .mul .f64 y x' = some bc := e5
  have g6 : floatBits .add .f64 ad bc = some im := e6
  unfold cMulBits
  simp [g1, g2, g3, g4, g5, g6]

end Go.Proofs.YthbnacikomimfaaDoor
