/-
  Dividing numbers in parts of six digits: plain facts.
-/
import Derived.Test.YtjgpjafndaikcaaDoorRead
namespace Go.Proofs.YtjgpjafndaikcaaDoor
set_option linter.unusedVariables false

theorem drop_val6 (p : List Int) (g : Nat) (h : g < p.length) : vb 1000000 (p.drop g) = p.getD g 0 + 1000000 * vb 1000000 (p.drop (g + 1)) := by
  rw [List.drop_eq_getElem_cons h]; simp [vb, List.getD, h]

/-- What stands from the place s on, and less than one of it more. -/
theorem vb_mid (p : List Int) (s : Nat) (hs : s ≤ p.length) (lo : ∀ i, 0 ≤ p.getD i 0) (hi : ∀ i, p.getD i 0 < 1000000) :
    1000000 ^ s * vb 1000000 (p.drop s) ≤ vb 1000000 p ∧ vb 1000000 p < 1000000 ^ s * (vb 1000000 (p.drop s) + 1) := by
  have b := vb_lt 1000000 (by omega) (p.take s) s (fun j => by rw [getD_take]; split; exact lo j; omega) (fun j => by rw [getD_take]; split; exact hi j; omega) (fun j hj => by rw [getD_take, if_neg (by omega)])
  rw [vb_split 1000000 p s hs, Int.mul_add]
  omega

/-- Where divideSmall stands: the parts from t on are the quotient's, r is left of them. -/
structure DivS (p0 : List Int) (d : Int) (t : Nat) (r : Int) (p : List Int) : Prop where
  len : p.length = 204
  lo : ∀ i, 0 ≤ p.getD i 0
  hi : ∀ i, p.getD i 0 < 1000000
  low : ∀ i, i < t → p.getD i 0 = p0.getD i 0
  r0 : 0 ≤ r
  r1 : r < d
  val : vb 1000000 (p0.drop t) = d * vb 1000000 (p.drop t) + r

theorem DivS.start {n k : Nat} {p : List Int} {d : Int} (h : Rep n k p) (hd : 0 < d) : DivS p d k 0 p :=
  ⟨h.len, h.lo, h.hi, fun _ _ => rfl, by omega, hd, by
    rw [vb_zero _ _ (fun i => by rw [getD_drop]; exact h.out _ (by omega))]; simp⟩

theorem small_bd {r x d : Int} (r0 : 0 ≤ r) (r1 : r < d) (x0 : 0 ≤ x) (x1 : x < 1000000) : 0 ≤ (r * 1000000 + x) / d ∧ (r * 1000000 + x) / d < 1000000 ∧ 0 ≤ (r * 1000000 + x) % d ∧ (r * 1000000 + x) % d < d := by
  refine ⟨Int.ediv_nonneg (by omega) (by omega), Int.ediv_lt_of_lt_mul (by omega) (by omega), Int.emod_nonneg _ (by omega), Int.emod_lt_of_pos _ (by omega)⟩

theorem DivS.step {p0 p : List Int} {d r : Int} {t : Nat} (h : DivS p0 d (t + 1) r p) (ht : t < 204) (hl0 : p0.length = 204) :
    DivS p0 d t ((r * 1000000 + p.getD t 0) % d) (p.set t ((r * 1000000 + p.getD t 0) / d)) := by
  have hb := small_bd h.r0 h.r1 (h.lo t) (h.hi t)
  have hlen := h.len
  refine ⟨by simp [h.len], fun i => ?_, fun i => ?_, fun i hi => ?_, hb.2.2.1, hb.2.2.2, ?_⟩
  · rw [getD_set _ _ _ _ (by omega)]; split
    · exact hb.1
    · exact h.lo i
  · rw [getD_set _ _ _ _ (by omega)]; split
    · exact hb.2.1
    · exact h.hi i
  · rw [getD_set _ _ _ _ (by omega), if_neg (by omega)]; exact h.low i (by omega)
  · have e1 := h.val
    have e2 := h.low t (by omega)
    have hd : (p.set t ((r * 1000000 + p.getD t 0) / d)).drop (t + 1) = p.drop (t + 1) := by
      rw [List.drop_set_of_lt (by omega)]
    rw [drop_val6 p0 t (by omega), drop_val6 (p.set t _) t (by simp; omega), hd, getD_set _ _ _ _ (by omega), if_pos rfl, e1, ← e2]
    have hx := Int.mul_ediv_add_emod (r * 1000000 + p.getD t 0) d
    generalize vb 1000000 (p.drop (t + 1)) = V at *
    generalize (r * 1000000 + p.getD t 0) / d = X at *
    rw [Int.mul_add d X, ← Int.mul_assoc d 1000000 V, Int.mul_comm d 1000000, Int.mul_assoc]
    omega

theorem DivS.end {n k : Nat} {p0 p : List Int} {d r : Int} (h : DivS p0 d 0 r p) (hP : Rep n k p0) (hout : ∀ i, k ≤ i → p.getD i 0 = 0) (D : Nat) (hD : d = (D : Int)) :
    r = ((n % D : Nat) : Int) ∧ Rep (n / D) (trimTo p k) p := by
  have hv := h.val
  simp only [List.drop_zero] at hv
  rw [hP.val, hD] at hv
  have h0 := h.r0
  have h1 := h.r1
  have hb := vb_lt 1000000 (by omega) p k h.lo h.hi hout
  obtain ⟨V, hV⟩ : ∃ V : Nat, vb 1000000 p = (V : Int) := ⟨(vb 1000000 p).toNat, by omega⟩
  obtain ⟨R, hR⟩ : ∃ R : Nat, r = (R : Int) := ⟨r.toNat, by omega⟩
  rw [hV, hR] at hv
  have hn : n = D * V + R := by exact_mod_cast hv
  have hRD : R < D := by omega
  have hDp : 0 < D := by omega
  have e1 : n / D = V := by rw [hn, Nat.mul_add_div hDp, Nat.div_eq_of_lt hRD]; omega
  have e2 : n % D = R := by rw [hn, Nat.mul_add_mod, Nat.mod_eq_of_lt hRD]
  refine ⟨by rw [e2, hR], ?_⟩
  rw [e1]
  exact Rep.mk' h.len hP.le h.lo h.hi hout hV

/-! ### The guess -/
/-- Of the numbers c and m (of j parts, two at least) with c below 10^6 times m moved up by t parts: what the first parts tell. -/
theorem guess_ok {c kc m j t : Nat} {pc q : List Int} (hC : Rep c kc pc) (hM : Rep m j q) (hj : 2 ≤ j) (htj : t + j < 204) (hlt : (c : Int) < 1000000 ^ (t + 1) * (m : Int)) (g F D : Int)
    (hF : F = (pc.getD (t + j) 0 * 1000000 + pc.getD (t + j - 1) 0) * 1000000 + pc.getD (t + j - 2) 0) (hD : D = q.getD (j - 1) 0 * 1000000 + q.getD (j - 2) 0) (hg : g = F / D) :
    0 ≤ g ∧ g ≤ 2000000 ∧ (c : Int) < (g + 1) * (1000000 ^ t * (m : Int)) := by
  have hmlt := hM.lt
  have hcp := hC.len
  have hqp := hM.len
  obtain ⟨s, rfl⟩ : ∃ s, j = s + 2 := ⟨j - 2, by omega⟩
  have e0 : t + (s + 2) - 2 = t + s := by omega
  have e1 : t + (s + 2) - 1 = t + s + 1 := by omega
  have e2 : s + 2 - 1 = s + 1 := by omega
  have e3 : s + 2 - 2 = s := by omega
  rw [e0, e1] at hF
  rw [e2, e3] at hD
  have hP : ∀ a : Nat, (0 : Int) < 1000000 ^ a := fun a => Int.pow_pos (by omega)
  -- parts above the top are 0
  have hz : ∀ i, t + s + 3 ≤ i → pc.getD i 0 = 0 := fun i hi => by
    have h0 := hC.lo i
    by_cases e : pc.getD i 0 = 0
    · exact e
    · have h1 := vb_ge 1000000 (by omega) pc i hC.lo (by omega)
      rw [hC.val] at h1
      have h2 : (1000000 : Int) ^ (t + 1) * (m : Int) < 1000000 ^ (t + 1) * 1000000 ^ (s + 2) := Int.mul_lt_mul_of_pos_left hmlt (hP _)
      rw [← Int.pow_add] at h2
      have h3 : (1000000 : Int) ^ (t + 1 + (s + 2)) ≤ 1000000 ^ i := ipow_le (by omega)
      omega
  have hFv : vb 1000000 (pc.drop (t + s)) = F := by
    rw [drop_val6 pc (t + s) (by omega), drop_val6 pc (t + s + 1) (by omega), drop_val6 pc (t + s + 1 + 1) (by omega), vb_zero _ _ (fun i => by rw [getD_drop]; exact hz _ (by omega)), hF]
    have : t + (s + 2) = t + s + 1 + 1 := by omega
    rw [this]
    omega
  have hDv : vb 1000000 (q.drop s) = D := by
    rw [drop_val6 q s (by omega), drop_val6 q (s + 1) (by omega), vb_zero _ _ (fun i => by rw [getD_drop]; exact hM.out _ (by omega)), hD]
    omega
  have hc := vb_mid pc (t + s) (by omega) hC.lo hC.hi
  have hm := vb_mid q s (by omega) hM.lo hM.hi
  rw [hFv, hC.val] at hc
  rw [hDv, hM.val] at hm
  have hD1 : 1 ≤ D := by
    have h1 := hM.top (by omega)
    have h2 := hM.lo (s + 1)
    have h3 := hM.lo s
    rw [e2] at h1
    omega
  have hF0 : 0 ≤ F := by
    have h1 := hC.lo (t + (s + 2)); have h2 := hC.lo (t + s + 1); have h3 := hC.lo (t + s)
    omega
  have hg0 : 0 ≤ g := by rw [hg]; exact Int.ediv_nonneg hF0 (by omega)
  have hx := Int.mul_ediv_add_emod F D
  have hx1 := Int.emod_nonneg F (show D ≠ 0 by omega)
  have hx2 := Int.emod_lt_of_pos F (show 0 < D by omega)
  rw [← hg] at hx
  -- F < (g + 1) D, g D ≤ F
  have hgD : F + 1 ≤ (g + 1) * D := by rw [Int.add_mul, Int.mul_comm g D]; omega
  have hgD' : g * D ≤ F := by rw [Int.mul_comm g D]; omega
  refine ⟨hg0, ?_, ?_⟩
  · -- F < B (D + 1)
    have h1 : (1000000 : Int) ^ (t + 1) * (m : Int) ≤ 1000000 ^ (t + 1) * (1000000 ^ s * (D + 1)) := Int.mul_le_mul_of_nonneg_left (by omega) (Int.le_of_lt (hP _))
    have e4 : (1000000 : Int) ^ (t + 1) * (1000000 ^ s * (D + 1)) = 1000000 ^ (t + s) * (1000000 * (D + 1)) := by
      rw [← Int.mul_assoc, ← Int.pow_add, show t + 1 + s = t + s + 1 by omega, Int.pow_succ, Int.mul_assoc]
    have h2 : (1000000 : Int) ^ (t + s) * F < 1000000 ^ (t + s) * (1000000 * (D + 1)) := by omega
    have h3 := Int.lt_of_mul_lt_mul_left h2 (Int.le_of_lt (hP _))
    by_cases hgg : g ≤ 2000000
    · exact hgg
    · have h4 : 2000001 * D ≤ g * D := Int.mul_le_mul_of_nonneg_right (by omega) (by omega)
      omega
  · have h1 : (1000000 : Int) ^ (t + s) * (F + 1) ≤ 1000000 ^ (t + s) * ((g + 1) * D) := Int.mul_le_mul_of_nonneg_left hgD (Int.le_of_lt (hP _))
    have e4 : (1000000 : Int) ^ (t + s) * ((g + 1) * D) = (g + 1) * (1000000 ^ t * (1000000 ^ s * D)) := by
      rw [Int.pow_add, Int.mul_assoc, ← Int.mul_assoc (1000000 ^ s) (g + 1), Int.mul_comm (1000000 ^ s) (g + 1), Int.mul_assoc (g + 1), ← Int.mul_assoc (1000000 ^ t) (g + 1), Int.mul_comm (1000000 ^ t) (g + 1), Int.mul_assoc (g + 1)]
    have h2 : (g + 1) * (1000000 ^ t * (1000000 ^ s * D)) ≤ (g + 1) * (1000000 ^ t * (m : Int)) :=
      Int.mul_le_mul_of_nonneg_left (Int.mul_le_mul_of_nonneg_left (by omega) (Int.le_of_lt (hP _))) (by omega)
    omega

/-! ### The long division -/
/-- Where divide stands: the quotient's parts from t on are there, c is left. -/
structure DivL (n m K t c : Nat) (Q : List Int) : Prop where
  len : Q.length = 204
  lo : ∀ i, 0 ≤ Q.getD i 0
  hi : ∀ i, Q.getD i 0 < 1000000
  low : ∀ i, i < t → Q.getD i 0 = 0
  out : ∀ i, K ≤ i → Q.getD i 0 = 0
  val : (n : Int) = vb 1000000 Q * (m : Int) + (c : Int)
  lt : (c : Int) < 1000000 ^ t * (m : Int)

theorem DivL.start {n m K : Nat} (h : (n : Int) < 1000000 ^ K * (m : Int)) : DivL n m K K n zP :=
  ⟨zP_len, fun i => by rw [zP_get]; omega, fun i => by rw [zP_get]; omega, fun i _ => zP_get i, fun i _ => zP_get i, by rw [vb_zero _ _ zP_get]; simp, h⟩

theorem DivL.start_lt {n m k j : Nat} {p q : List Int} (hP : Rep n k p) (hM : Rep m j q) (hj : 0 < j) (hkj : j ≤ k) : (n : Int) < 1000000 ^ (k - j + 1) * (m : Int) := by
  have h1 := hP.lt
  have h2 := hM.ge hj
  have h3 : (1000000 : Int) ^ (k - j + 1) * 1000000 ^ (j - 1) ≤ 1000000 ^ (k - j + 1) * (m : Int) := Int.mul_le_mul_of_nonneg_left h2 (Int.le_of_lt (Int.pow_pos (by omega)))
  rw [← Int.pow_add, show k - j + 1 + (j - 1) = k by omega] at h3
  omega

theorem DivL.step {n m K t c c' : Nat} {Q : List Int} (a : Int) (h : DivL n m K (t + 1) c Q) (ht : t < K) (hK : K ≤ 204) (ha : 0 ≤ a) (hc : (c' : Int) = (c : Int) - a * (1000000 ^ t * (m : Int))) (hlt : (c : Int) < (a + 1) * (1000000 ^ t * (m : Int))) :
    DivL n m K t c' (Q.set t a) := by
  have hlen := h.len
  have hb : (0 : Int) < 1000000 ^ t := Int.pow_pos (by omega)
  have ha1 : a < 1000000 := by
    by_cases e : a < 1000000
    · exact e
    · have h1 : 1000000 * (1000000 ^ t * (m : Int)) ≤ a * (1000000 ^ t * (m : Int)) := Int.mul_le_mul_of_nonneg_right (by omega) (Int.mul_nonneg (Int.le_of_lt hb) (by omega))
      have h2 := h.lt
      rw [Int.pow_succ, Int.mul_comm (1000000 ^ t) 1000000, Int.mul_assoc] at h2
      omega
  refine ⟨by simp [h.len], fun i => ?_, fun i => ?_, fun i hi => ?_, fun i hi => ?_, ?_, ?_⟩
  · rw [getD_set _ _ _ _ (by omega)]; split
    · exact ha
    · exact h.lo i
  · rw [getD_set _ _ _ _ (by omega)]; split
    · exact ha1
    · exact h.hi i
  · rw [getD_set _ _ _ _ (by omega), if_neg (by omega)]; exact h.low i (by omega)
  · rw [getD_set _ _ _ _ (by omega), if_neg (by omega)]; exact h.out i hi
  · rw [vb_set _ _ _ _ (by omega), h.low t (by omega), hc, h.val, Int.sub_zero, Int.add_mul, ← Int.mul_assoc a, Int.mul_comm a (1000000 ^ t)]
    omega
  · rw [Int.add_mul, Int.one_mul] at hlt
    omega

theorem DivL.end {n m K c : Nat} {Q : List Int} (h : DivL n m K 0 c Q) (hK : K ≤ 204) : c = n % m ∧ Rep (n / m) (trimTo Q K) Q := by
  have hv := h.val
  have hl := h.lt
  rw [Int.pow_zero, Int.one_mul] at hl
  have hb := vb_lt 1000000 (by omega) Q K h.lo h.hi h.out
  obtain ⟨V, hV⟩ : ∃ V : Nat, vb 1000000 Q = (V : Int) := ⟨(vb 1000000 Q).toNat, by omega⟩
  rw [hV] at hv
  have hn : n = m * V + c := by rw [Nat.mul_comm]; exact_mod_cast hv
  have hcm : c < m := by omega
  have hmp : 0 < m := by omega
  have e1 : n / m = V := by rw [hn, Nat.mul_add_div hmp, Nat.div_eq_of_lt hcm]; omega
  have e2 : n % m = c := by rw [hn, Nat.mul_add_mod, Nat.mod_eq_of_lt hcm]
  refine ⟨e2.symm, ?_⟩
  rw [e1]
  exact Rep.mk' h.len hK h.lo h.hi h.out hV
end Go.Proofs.YtjgpjafndaikcaaDoor
