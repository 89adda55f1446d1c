/-
  What sumTop of impl's fractions answers: the top of a sum over the product of both bottoms; by complex numbers where both are small.
-/
import Derived.Test.YtmfpnbmfcoahbaaGreatDoorPkNumTimes
import Derived.Test.YtmfpnbmfcoahbaaGreatDoorPkCutNum
namespace Go.Proofs.YtmfpnbmfcoahbaaGreatDoor
open Go.RowKit
set_option linter.unusedVariables false

theorem Rep.used_le {N i : Nat} {r : List Int} (h : Rep N i r) (K : Nat) (hN : N < 1000000 ^ K) : i ≤ K := by
  by_cases hi : i ≤ K
  · exact hi
  · have h1 := h.geN (by omega)
    have h2 : 1000000 ^ K ≤ 1000000 ^ (i - 1) := Nat.pow_le_pow_right (by decide) (by omega)
    omega
theorem topZ_used {g : Bool} {n m : Nat} {g' : Bool} {n' m' k j k' j' i : Nat} {p q p' q' r : List Int} (hP : Rep n k p) (hQ : Rep m j q) (hP' : Rep n' k' p') (hQ' : Rep m' j' q') (hk : k ≤ 100) (hj : j ≤ 100) (hk' : k' ≤ 100) (hj' : j' ≤ 100) (hR : Rep (topZ g n m g' n' m').natAbs i r) : i ≤ 201 := by
  have up : ∀ {x y : Nat} {l : List Int}, Rep x y l → y ≤ 100 → x < 1000000 ^ 100 := fun h hy => Nat.lt_of_lt_of_le h.ltN (Nat.pow_le_pow_right (by decide) hy)
  have h1 := Nat.mul_lt_mul'' (up hP hk) (up hQ' hj')
  have h2 := Nat.mul_lt_mul'' (up hP' hk') (up hQ hj)
  have h3 := topZ_abs g n m g' n' m'
  apply hR.used_le
  rw [show 201 = 100 + 100 + 1 by rfl, Nat.pow_succ, Nat.pow_add]
  generalize 1000000 ^ 100 * 1000000 ^ 100 = X at h1 h2 ⊢
  omega

theorem cmul_small {x y x' y' : Nat} {a b c d : Int} (h1 : F64 x a) (h2 : F64 y b) (h3 : F64 x' c) (h4 : F64 y' d) (ha : a.natAbs < 1000000) (hb : b.natAbs < 1000000) (hc : c.natAbs < 1000000) (hd : d.natAbs < 1000000) : ∃ re im, cMulBits x y x' y' = some (re, im) ∧ F64 im (b * c + d * a) ∧ (b * c + d * a).natAbs < 2000000000000 := by
  have key : ∀ {u v : Int}, u.natAbs < 1000000 → v.natAbs < 1000000 → (u * v).natAbs < 1000000000000 := fun {u v} hu hv => by
    rw [Int.natAbs_mul]; exact Nat.mul_lt_mul'' hu hv
  have k1 := key ha hc
  have k2 := key hb hd
  have k3 := key ha hd
  have k4 := key hb hc
  obtain ⟨ac, e1, f1⟩ := F64.mul h1 h3 (by omega)
  obtain ⟨bd, e2, f2⟩ := F64.mul h2 h4 (by omega)
  obtain ⟨re, e3, f3⟩ := F64.sub f1 f2 (by omega)
  obtain ⟨ad, e4, f4⟩ := F64.mul h1 h4 (by omega)
  obtain ⟨bc, e5, f5⟩ := F64.mul h2 h3 (by omega)
  obtain ⟨im, e6, f6⟩ := F64.add f4 f5 (by omega)
  have hz : a * d + b * c = b * c + d * a := by rw [Int.mul_comm a d]; omega
  refine ⟨re, im, ?_, by rw [← hz]; exact f6, by rw [← hz]; omega⟩
  have g1 : floatBits .mul .f64 x x' = some ac := e1
  have g2 : floatBits .mul .f64 y y' = some bd := e2
  have g3 : floatBits .sub .f64 ac bd = some re := e3
  have g4 : floatBits .mul .f64 x y' = some ad := e4
  have g5 : floatBits .mul .f64 y x' = some bc := e5
  have g6 : floatBits .add .f64 ad bc = some im := e6
  unfold cMulBits
  simp [g1, g2, g3, g4, g5, g6]

set_option maxHeartbeats 2000000 in
set_option maxRecDepth 100000 in
theorem sumTop_any {n m k j n' m' k' j' : Nat} {p q p' q' : List Int} (g g' : Bool) (w : World) (hP : Rep n k p) (hQ : Rep m j q) (hP' : Rep n' k' p') (hQ' : Rep m' j' q') (hk : k ≤ 100) (hj : j ≤ 100) (hk' : k' ≤ 100) (hj' : j' ≤ 100) (h0 : g = true → n ≠ 0) (h1 : m' ≠ 0) :
    Calls Tryz.prog 51 #[.agg (numC g k p j q), .agg (numC g' k' p' j' q')] w fun e w' => ∃ (i : Nat) (r : List Int), e = .returned (.agg (wholeC (decide (topZ g n m g' n' m' < 0)) i r)) ∧ Rep (topZ g n m g' n' m').natAbs i r ∧ Below w.heap.size w w' := by
  have hz1 := zero_whole.1
  have hp := hP.len
  have hq := hQ.len
  have hp' := hP'.len
  have hq' := hQ'.len
  have A : NumAt (((w.alloc (.cells (numC g k p j q) 48)).alloc (.cells (numC g' k' p' j' q') 48)).alloc (.cells (wholeC false 0 zP) 36)) w.heap.size g k p j q := RowAt.old (RowAt.old (NumAt.new w g k p j q) _) _
  have B : NumAt (((w.alloc (.cells (numC g k p j q) 48)).alloc (.cells (numC g' k' p' j' q') 48)).alloc (.cells (wholeC false 0 zP) 36)) (w.heap.size + 1) g' k' p' j' q' := by
    have := RowAt.old (NumAt.new (w.alloc (.cells (numC g k p j q) 48)) g' k' p' j' q') (.cells (wholeC false 0 zP) 36)
    simp only [World.size_alloc] at this; exact this
  have C : WholeAt (((w.alloc (.cells (numC g k p j q) 48)).alloc (.cells (numC g' k' p' j' q') 48)).alloc (.cells (wholeC false 0 zP) 36)) (w.heap.size + 1 + 1) false 0 zP := by
    have := WholeAt.new ((w.alloc (.cells (numC g k p j q) 48)).alloc (.cells (numC g' k' p' j' q') 48)) false 0 zP
    simp only [World.size_alloc] at this; exact this
  have hB : Below w.heap.size w (((w.alloc (.cells (numC g k p j q) 48)).alloc (.cells (numC g' k' p' j' q') 48)).alloc (.cells (wholeC false 0 zP) 36)) := (((Below.refl _ _).alloc (Nat.le_refl _) _).alloc (by simp) _).alloc (by simp; omega) _
  obtain ⟨W, hWd⟩ : ∃ W, W = (((w.alloc (.cells (numC g k p j q) 48)).alloc (.cells (numC g' k' p' j' q') 48)).alloc (.cells (wholeC false 0 zP) 36)) := ⟨_, rfl⟩
  have hWs : W.heap.size = w.heap.size + 1 + 1 + 1 := by rw [hWd]; simp
  have HP := hide (And.intro hP hQ)
  have HP' := hide (And.intro hP' hQ')
  have H0 := hide (And.intro h0 h1)
  clear hP hQ hP' hQ' h0 h1
  go_enter Tryz.func51, Tryz.ntmps51
  go_wp2_with (refine load_num rfl _ rfl w.heap.size rfl g k p j q A hp hq ?_)
  rw [← hWd] at A B C hB ⊢
  clear hWd
  refine (isSmall_any g W hp).mono ?_
  rintro e w1 ⟨rfl, hW1⟩
  have hs1 := hW1.size
  have A1 : NumAt w1 w.heap.size g k p j q := RowAt.below A hW1 (by omega)
  have B1 : NumAt w1 (w.heap.size + 1) g' k' p' j' q' := RowAt.below B hW1 (by omega)
  have C1 : WholeAt w1 (w.heap.size + 1 + 1) false 0 zP := RowAt.below C hW1 (by omega)
  have hB1 : Below w.heap.size w w1 := hB.trans (hW1.mono hB.size)
  clear A B C hB hW1
  by_cases hs : k ≤ 1 ∧ j ≤ 1
  · rw [decide_eq_true hs.1, decide_eq_true hs.2]
    go_wp2_with (refine load_num_w rfl _ rfl (w.heap.size + 1) rfl g' k' p' j' q' B1 hp' hq' ?_)
    refine (isSmall_any g' w1 hp').mono ?_
    rintro e w2 ⟨rfl, hW2⟩
    have hs2 := hW2.size
    have A : NumAt w2 w.heap.size g k p j q := RowAt.below A1 hW2 (by omega)
    have B : NumAt w2 (w.heap.size + 1) g' k' p' j' q' := RowAt.below B1 hW2 (by omega)
    have C : WholeAt w2 (w.heap.size + 1 + 1) false 0 zP := RowAt.below C1 hW2 (by omega)
    have hB : Below w.heap.size w w2 := hB1.trans (hW2.mono hB1.size)
    clear A1 B1 C1 hB1 hW2
    by_cases hs' : k' ≤ 1 ∧ j' ≤ 1
    · rw [decide_eq_true hs'.1, decide_eq_true hs'.2]
      go_wp2_with fail
      obtain ⟨hk1, hj1⟩ := hs
      obtain ⟨hk1', hj1'⟩ := hs'
      refine held_begin (fun w' => NumAt w' w.heap.size g k p j q ∧ NumAt w' (w.heap.size + 1) g' k' p' j' q') (by kernel_rfl) ?_
      have hS : NumAt w2.drew w.heap.size g k p j q ∧ NumAt w2.drew (w.heap.size + 1) g' k' p' j' q' := ⟨A, B⟩
      refine held_load_num 0 (some 11) rfl rfl (by kernel_rfl) (by kernel_rfl) (by kernel_rfl) noPanic_put rfl _ rfl w.heap.size rfl g k p j q (fun _ h => h.1) hp hq hS ?_
      simp only [Act.put, List.setIfInBounds_toArray, List.set_cons_zero, List.set_cons_succ]
      refine held_load_num 2 (some 13) rfl rfl (by kernel_rfl) (by kernel_rfl) (by kernel_rfl) noPanic_put rfl _ rfl (w.heap.size + 1) rfl g' k' p' j' q' (fun _ h => h.2) hp' hq' hS ?_
      simp only [Act.put, List.setIfInBounds_toArray, List.set_cons_zero, List.set_cons_succ]
      refine held_call 1 (some 12) (by kernel_rfl) rfl rfl rfl 73 #[.agg (numC g k p j q)] (by go_simp) _ (asComplex_any g w2.drew HP.out.1 HP.out.2 hk1 hj1) ?_
      rintro e w5 ⟨x, y, rfl, hx, hy, hW5⟩
      have hW5 : Below w2.heap.size w2 w5 := ⟨hW5.os, hW5.tape, hW5.output, hW5.size, hW5.block⟩
      have hs5 := hW5.size
      have S5 : NumAt w5 w.heap.size g k p j q ∧ NumAt w5 (w.heap.size + 1) g' k' p' j' q' := ⟨RowAt.below A hW5 (by omega), RowAt.below B hW5 (by omega)⟩
      have C5 : WholeAt w5 (w.heap.size + 1 + 1) false 0 zP := RowAt.below C hW5 (by omega)
      have hB5 : Below w.heap.size w w5 := hB.trans (hW5.mono hB.size)
      clear A B C hB hS hW5
      refine ⟨_, rfl, S5, ?_⟩
      simp only [Act.put, List.setIfInBounds_toArray, List.set_cons_zero, List.set_cons_succ]
      refine held_call 3 (some 14) (by kernel_rfl) rfl rfl rfl 73 #[.agg (numC g' k' p' j' q')] (by go_simp) _ (asComplex_any g' w5 HP'.out.1 HP'.out.2 hk1' hj1') ?_
      rintro e w6 ⟨x', y', rfl, hx', hy', hW6⟩
      have hs6 := hW6.size
      have S6 : NumAt w6 w.heap.size g k p j q ∧ NumAt w6 (w.heap.size + 1) g' k' p' j' q' := ⟨RowAt.below S5.1 hW6 (by omega), RowAt.below S5.2 hW6 (by omega)⟩
      have C6 : WholeAt w6 (w.heap.size + 1 + 1) false 0 zP := RowAt.below C5 hW6 (by omega)
      have hB6 : Below w.heap.size w w6 := hB5.trans (hW6.mono hB5.size)
      obtain ⟨re, im, hm, hF, hab⟩ := cmul_small hx hy hx' hy' (by rw [Int.natAbs_natCast]; exact (HP.out.2.little hj1).2) (by rw [sg_abs]; exact (HP.out.1.little hk1).2) (by rw [Int.natAbs_natCast]; exact (HP'.out.2.little hj1').2) (by rw [sg_abs]; exact (HP'.out.1.little hk1').2)
      obtain ⟨Z, hZ⟩ : ∃ Z, Z = sg g n * (m' : Int) + sg g' n' * (m : Int) := ⟨_, rfl⟩
      rw [← hZ] at hF hab
      have HZ : Hid (Z = topZ g n m g' n' m') := hZ
      have hmul : ∀ w, (binOp .mul 93 (.complex .f64 x y) (.complex .f64 x' y')).run Tryz.prog w = .ok (.complex .f64 re im) w := fun w => run_complex_mul w _ _ _ _ _ _ _ hm
      have hcv : ∀ w, (convert 92 3 (.float .f64 im)).run Tryz.prog w = .ok (.int .i64 Z) w := fun w => run_convert_float_int w _ _ _ _ _ _ rfl Tryz.underlying3 (hF.toInt (by omega) (by omega))
      have hz1' : -400000000000000 ≤ Z := by omega
      have hz2' : Z ≤ 400000000000000 := by omega
      clear S5 C5 hB5 hW6 hx hy hx' hy' hm hF hab hZ
      refine ⟨_, rfl, S6, ?_⟩
      simp only [Act.put, List.setIfInBounds_toArray, List.set_cons_zero, List.set_cons_succ]
      refine held_valS 4 (some 15) rfl rfl (by kernel_rfl) (by kernel_rfl) (by kernel_rfl) noPanic_put rfl (.complex .f64 re im) (fun w _ => by have h := hmul w; go_simp) S6 ?_
      simp only [Act.put, List.setIfInBounds_toArray, List.set_cons_zero, List.set_cons_succ]
      refine held_valS 5 (some 16) rfl rfl (by kernel_rfl) (by kernel_rfl) (by kernel_rfl) noPanic_put rfl (.float .f64 im) (fun _ _ => by go_simp) S6 ?_
      simp only [Act.put, List.setIfInBounds_toArray, List.set_cons_zero, List.set_cons_succ]
      refine held_valS 6 (some 17) rfl rfl (by kernel_rfl) (by kernel_rfl) (by kernel_rfl) noPanic_put rfl (.int .i64 Z) (fun w _ => by have h := hcv w; go_simp) S6 ?_
      simp only [Act.put, List.setIfInBounds_toArray, List.set_cons_zero, List.set_cons_succ]
      refine held_call 7 (some 18) (by kernel_rfl) rfl rfl rfl 26 #[.int .i64 Z] (by go_simp) _ (smallWhole_any Z w6 hz1' hz2') ?_
      rintro e w7 ⟨i, r, rfl, hR7, hW7⟩
      rw [HZ.out] at hR7 ⊢
      have hr := hR7.len
      have hs7 := hW7.size
      have HR7 := hide hR7
      have S7 : NumAt w7 w.heap.size g k p j q ∧ NumAt w7 (w.heap.size + 1) g' k' p' j' q' := ⟨RowAt.below S6.1 hW7 (by omega), RowAt.below S6.2 hW7 (by omega)⟩
      have C7 : WholeAt w7 (w.heap.size + 1 + 1) false 0 zP := RowAt.below C6 hW7 (by omega)
      have hB7 : Below w.heap.size w w7 := hB6.trans (hW7.mono hB6.size)
      obtain ⟨G, hG⟩ : ∃ G, G = decide (topZ g n m g' n' m' < 0) := ⟨_, rfl⟩
      rw [← hG]
      have HG := hide hG
      clear S6 C6 hB6 hR7 hW7 hG
      refine ⟨_, rfl, S7, ?_⟩
      simp only [Act.put, List.setIfInBounds_toArray, List.set_cons_zero, List.set_cons_succ]
      refine held_store_whole 8 (by kernel_rfl) rfl rfl _ _ rfl rfl (w.heap.size + 1 + 1) G i r rfl rfl false 0 zP C7 zP_len hr ?_
      intro w8 hN8 hg8 hs8
      refine ⟨⟨RowAt.grown S7.1 hg8 (by simp; omega), RowAt.grown S7.2 hg8 (by simp)⟩, ?_⟩
      refine wpAnyH_done (by kernel_rfl) ?_ _
      refine NoPanic.normal ?_
      go_wp2
      refine bodyPost_ret (v := .agg (wholeC G i r)) (res_whole Tryz.results51 _ _ (w.heap.size + 1 + 1) _ _ _ rfl hN8 hr) rfl ⟨i, r, by rw [HG.out], HR7.out, ?_⟩
      exact hB7.grown hg8 (by have := hB7.size; omega) (by intro k hk; cases hk; omega)
    · have hf : (decide (k' ≤ 1) && decide (j' ≤ 1)) = false := by
        by_cases h : k' ≤ 1
        · rw [decide_eq_false (fun h2 => hs' ⟨h, h2⟩), Bool.and_false]
        · rw [decide_eq_false h, Bool.false_and]
      rw [hf]
      clear hf
      go_wp2_with fail
      refine held_begin (fun w' => NumAt w' w.heap.size g k p j q ∧ NumAt w' (w.heap.size + 1) g' k' p' j' q') (by kernel_rfl) ?_
      have hS : NumAt w2.drew w.heap.size g k p j q ∧ NumAt w2.drew (w.heap.size + 1) g' k' p' j' q' := ⟨A, B⟩
      refine held_valS 0 (some 19) rfl rfl (by kernel_rfl) (by kernel_rfl) (by kernel_rfl) noPanic_put rfl (.pointer (some ⟨w.heap.size, 0, none⟩)) (fun _ _ => by go_simp) hS ?_
      simp only [Act.put, List.setIfInBounds_toArray, List.set_cons_zero, List.set_cons_succ]
      refine held_valS 1 (some 20) rfl rfl (by kernel_rfl) (by kernel_rfl) (by kernel_rfl) noPanic_put rfl (.agg (wholeC g k p)) (fun _ h => run_mid_whole _ rfl w.heap.size 0 rfl g k p h.1.whole hp) hS ?_
      simp only [Act.put, List.setIfInBounds_toArray, List.set_cons_zero, List.set_cons_succ]
      refine held_valS 2 (some 21) rfl rfl (by kernel_rfl) (by kernel_rfl) (by kernel_rfl) noPanic_put rfl (.pointer (some ⟨w.heap.size + 1, 206, none⟩)) (fun _ _ => by go_simp) hS ?_
      simp only [Act.put, List.setIfInBounds_toArray, List.set_cons_zero, List.set_cons_succ]
      refine held_valS 3 (some 22) rfl rfl (by kernel_rfl) (by kernel_rfl) (by kernel_rfl) noPanic_put rfl (.agg (natC j' q')) (fun _ h => run_mid_nat _ rfl (w.heap.size + 1) 206 rfl j' q' (h.2.bottom hp') hq') hS ?_
      simp only [Act.put, List.setIfInBounds_toArray, List.set_cons_zero, List.set_cons_succ]
      refine held_valS 5 (some 24) rfl rfl (by kernel_rfl) (by kernel_rfl) (by kernel_rfl) noPanic_put rfl (.pointer (some ⟨w.heap.size + 1, 0, none⟩)) (fun _ _ => by go_simp) hS ?_
      simp only [Act.put, List.setIfInBounds_toArray, List.set_cons_zero, List.set_cons_succ]
      refine held_valS 6 (some 25) rfl rfl (by kernel_rfl) (by kernel_rfl) (by kernel_rfl) noPanic_put rfl (.agg (wholeC g' k' p')) (fun _ h => run_mid_whole _ rfl (w.heap.size + 1) 0 rfl g' k' p' h.2.whole hp') hS ?_
      simp only [Act.put, List.setIfInBounds_toArray, List.set_cons_zero, List.set_cons_succ]
      refine held_valS 7 (some 26) rfl rfl (by kernel_rfl) (by kernel_rfl) (by kernel_rfl) noPanic_put rfl (.pointer (some ⟨w.heap.size, 206, none⟩)) (fun _ _ => by go_simp) hS ?_
      simp only [Act.put, List.setIfInBounds_toArray, List.set_cons_zero, List.set_cons_succ]
      refine held_valS 8 (some 27) rfl rfl (by kernel_rfl) (by kernel_rfl) (by kernel_rfl) noPanic_put rfl (.agg (natC j q)) (fun _ h => run_mid_nat _ rfl w.heap.size 206 rfl j q (h.1.bottom hp) hq) hS ?_
      simp only [Act.put, List.setIfInBounds_toArray, List.set_cons_zero, List.set_cons_succ]
      refine held_call 4 (some 23) (by kernel_rfl) rfl rfl rfl 29 #[.agg (wholeC g k p), .agg (natC j' q')] (by go_simp) _ (scaled_any g w2.drew HP.out.1 HP'.out.2 hk hj') ?_
      rintro e w5 ⟨c, t, rfl, hR5, hW5⟩
      have hW5 : Below w2.heap.size w2 w5 := ⟨hW5.os, hW5.tape, hW5.output, hW5.size, hW5.block⟩
      have hs5 := hW5.size
      have hc : c ≤ 201 := by have := Rep.mul_used HP.out.1 HP'.out.2 hR5; omega
      have HR5 := hide hR5
      have S5 : NumAt w5 w.heap.size g k p j q ∧ NumAt w5 (w.heap.size + 1) g' k' p' j' q' := ⟨RowAt.below A hW5 (by omega), RowAt.below B hW5 (by omega)⟩
      have C5 : WholeAt w5 (w.heap.size + 1 + 1) false 0 zP := RowAt.below C hW5 (by omega)
      have hB5 : Below w.heap.size w w5 := hB.trans (hW5.mono hB.size)
      clear A B C hB hS hR5 hW5
      refine ⟨_, rfl, S5, ?_⟩
      simp only [Act.put, List.setIfInBounds_toArray, List.set_cons_zero, List.set_cons_succ]
      refine held_call 9 (some 28) (by kernel_rfl) rfl rfl rfl 29 #[.agg (wholeC g' k' p'), .agg (natC j q)] (by go_simp) _ (scaled_any g' w5 HP'.out.1 HP.out.2 hk' hj) ?_
      rintro e w6 ⟨d, u, rfl, hR6, hW6⟩
      have hs6 := hW6.size
      have hd : d ≤ 201 := by have := Rep.mul_used HP'.out.1 HP.out.2 hR6; omega
      have HR6 := hide hR6
      have S6 : NumAt w6 w.heap.size g k p j q ∧ NumAt w6 (w.heap.size + 1) g' k' p' j' q' := ⟨RowAt.below S5.1 hW6 (by omega), RowAt.below S5.2 hW6 (by omega)⟩
      have C6 : WholeAt w6 (w.heap.size + 1 + 1) false 0 zP := RowAt.below C5 hW6 (by omega)
      have hB6 : Below w.heap.size w w6 := hB5.trans (hW6.mono hB5.size)
      clear S5 C5 hB5 hR6 hW6
      refine ⟨_, rfl, S6, ?_⟩
      simp only [Act.put, List.setIfInBounds_toArray, List.set_cons_zero, List.set_cons_succ]
      refine held_call 10 (some 29) (by kernel_rfl) rfl rfl rfl 50 #[.agg (wholeC g c t), .agg (wholeC g' d u)] (by go_simp) _ (added_any g g' w6 HR5.out HR6.out hc hd (fun h => Nat.mul_ne_zero (H0.out.1 h) H0.out.2)) ?_
      rintro e w7 ⟨i, r, rfl, hR7, hW7⟩
      rw [topZ_eq] at hR7 ⊢
      have hr := hR7.len
      have hs7 := hW7.size
      have HR7 := hide hR7
      have S7 : NumAt w7 w.heap.size g k p j q ∧ NumAt w7 (w.heap.size + 1) g' k' p' j' q' := ⟨RowAt.below S6.1 hW7 (by omega), RowAt.below S6.2 hW7 (by omega)⟩
      have C7 : WholeAt w7 (w.heap.size + 1 + 1) false 0 zP := RowAt.below C6 hW7 (by omega)
      have hB7 : Below w.heap.size w w7 := hB6.trans (hW7.mono hB6.size)
      obtain ⟨G, hG⟩ : ∃ G, G = decide (topZ g n m g' n' m' < 0) := ⟨_, rfl⟩
      rw [← hG]
      have HG := hide hG
      clear S6 C6 hB6 hR7 hW7 hG
      refine ⟨_, rfl, S7, ?_⟩
      simp only [Act.put, List.setIfInBounds_toArray, List.set_cons_zero, List.set_cons_succ]
      refine held_store_whole 11 (by kernel_rfl) rfl rfl _ _ rfl rfl (w.heap.size + 1 + 1) G i r rfl rfl false 0 zP C7 zP_len hr ?_
      intro w8 hN8 hg8 hs8
      refine ⟨⟨RowAt.grown S7.1 hg8 (by simp; omega), RowAt.grown S7.2 hg8 (by simp)⟩, ?_⟩
      refine wpAnyH_done (by kernel_rfl) ?_ _
      refine NoPanic.normal ?_
      go_wp2
      refine bodyPost_ret (v := .agg (wholeC G i r)) (res_whole Tryz.results51 _ _ (w.heap.size + 1 + 1) _ _ _ rfl hN8 hr) rfl ⟨i, r, by rw [HG.out], HR7.out, ?_⟩
      exact hB7.grown hg8 (by have := hB7.size; omega) (by intro k hk; cases hk; omega)
  · have hf : (decide (k ≤ 1) && decide (j ≤ 1)) = false := by
      by_cases h : k ≤ 1
      · rw [decide_eq_false (fun h2 => hs ⟨h, h2⟩), Bool.and_false]
      · rw [decide_eq_false h, Bool.false_and]
    rw [hf]
    clear hf
    have A := A1
    have B := B1
    have C := C1
    have hB := hB1
    clear A1 B1 C1 hB1
    go_wp2_with fail
    refine held_begin (fun w' => NumAt w' w.heap.size g k p j q ∧ NumAt w' (w.heap.size + 1) g' k' p' j' q') (by kernel_rfl) ?_
    have hS : NumAt w1.drew w.heap.size g k p j q ∧ NumAt w1.drew (w.heap.size + 1) g' k' p' j' q' := ⟨A, B⟩
    refine held_valS 0 (some 19) rfl rfl (by kernel_rfl) (by kernel_rfl) (by kernel_rfl) noPanic_put rfl (.pointer (some ⟨w.heap.size, 0, none⟩)) (fun _ _ => by go_simp) hS ?_
    simp only [Act.put, List.setIfInBounds_toArray, List.set_cons_zero, List.set_cons_succ]
    refine held_valS 1 (some 20) rfl rfl (by kernel_rfl) (by kernel_rfl) (by kernel_rfl) noPanic_put rfl (.agg (wholeC g k p)) (fun _ h => run_mid_whole _ rfl w.heap.size 0 rfl g k p h.1.whole hp) hS ?_
    simp only [Act.put, List.setIfInBounds_toArray, List.set_cons_zero, List.set_cons_succ]
    refine held_valS 2 (some 21) rfl rfl (by kernel_rfl) (by kernel_rfl) (by kernel_rfl) noPanic_put rfl (.pointer (some ⟨w.heap.size + 1, 206, none⟩)) (fun _ _ => by go_simp) hS ?_
    simp only [Act.put, List.setIfInBounds_toArray, List.set_cons_zero, List.set_cons_succ]
    refine held_valS 3 (some 22) rfl rfl (by kernel_rfl) (by kernel_rfl) (by kernel_rfl) noPanic_put rfl (.agg (natC j' q')) (fun _ h => run_mid_nat _ rfl (w.heap.size + 1) 206 rfl j' q' (h.2.bottom hp') hq') hS ?_
    simp only [Act.put, List.setIfInBounds_toArray, List.set_cons_zero, List.set_cons_succ]
    refine held_valS 5 (some 24) rfl rfl (by kernel_rfl) (by kernel_rfl) (by kernel_rfl) noPanic_put rfl (.pointer (some ⟨w.heap.size + 1, 0, none⟩)) (fun _ _ => by go_simp) hS ?_
    simp only [Act.put, List.setIfInBounds_toArray, List.set_cons_zero, List.set_cons_succ]
    refine held_valS 6 (some 25) rfl rfl (by kernel_rfl) (by kernel_rfl) (by kernel_rfl) noPanic_put rfl (.agg (wholeC g' k' p')) (fun _ h => run_mid_whole _ rfl (w.heap.size + 1) 0 rfl g' k' p' h.2.whole hp') hS ?_
    simp only [Act.put, List.setIfInBounds_toArray, List.set_cons_zero, List.set_cons_succ]
    refine held_valS 7 (some 26) rfl rfl (by kernel_rfl) (by kernel_rfl) (by kernel_rfl) noPanic_put rfl (.pointer (some ⟨w.heap.size, 206, none⟩)) (fun _ _ => by go_simp) hS ?_
    simp only [Act.put, List.setIfInBounds_toArray, List.set_cons_zero, List.set_cons_succ]
    refine held_valS 8 (some 27) rfl rfl (by kernel_rfl) (by kernel_rfl) (by kernel_rfl) noPanic_put rfl (.agg (natC j q)) (fun _ h => run_mid_nat _ rfl w.heap.size 206 rfl j q (h.1.bottom hp) hq) hS ?_
    simp only [Act.put, List.setIfInBounds_toArray, List.set_cons_zero, List.set_cons_succ]
    refine held_call 4 (some 23) (by kernel_rfl) rfl rfl rfl 29 #[.agg (wholeC g k p), .agg (natC j' q')] (by go_simp) _ (scaled_any g w1.drew HP.out.1 HP'.out.2 hk hj') ?_
    rintro e w5 ⟨c, t, rfl, hR5, hW5⟩
    have hW5 : Below w1.heap.size w1 w5 := ⟨hW5.os, hW5.tape, hW5.output, hW5.size, hW5.block⟩
    have hs5 := hW5.size
    have hc : c ≤ 201 := by have := Rep.mul_used HP.out.1 HP'.out.2 hR5; omega
    have HR5 := hide hR5
    have S5 : NumAt w5 w.heap.size g k p j q ∧ NumAt w5 (w.heap.size + 1) g' k' p' j' q' := ⟨RowAt.below A hW5 (by omega), RowAt.below B hW5 (by omega)⟩
    have C5 : WholeAt w5 (w.heap.size + 1 + 1) false 0 zP := RowAt.below C hW5 (by omega)
    have hB5 : Below w.heap.size w w5 := hB.trans (hW5.mono hB.size)
    clear A B C hB hS hR5 hW5
    refine ⟨_, rfl, S5, ?_⟩
    simp only [Act.put, List.setIfInBounds_toArray, List.set_cons_zero, List.set_cons_succ]
    refine held_call 9 (some 28) (by kernel_rfl) rfl rfl rfl 29 #[.agg (wholeC g' k' p'), .agg (natC j q)] (by go_simp) _ (scaled_any g' w5 HP'.out.1 HP.out.2 hk' hj) ?_
    rintro e w6 ⟨d, u, rfl, hR6, hW6⟩
    have hs6 := hW6.size
    have hd : d ≤ 201 := by have := Rep.mul_used HP'.out.1 HP.out.2 hR6; omega
    have HR6 := hide hR6
    have S6 : NumAt w6 w.heap.size g k p j q ∧ NumAt w6 (w.heap.size + 1) g' k' p' j' q' := ⟨RowAt.below S5.1 hW6 (by omega), RowAt.below S5.2 hW6 (by omega)⟩
    have C6 : WholeAt w6 (w.heap.size + 1 + 1) false 0 zP := RowAt.below C5 hW6 (by omega)
    have hB6 : Below w.heap.size w w6 := hB5.trans (hW6.mono hB5.size)
    clear S5 C5 hB5 hR6 hW6
    refine ⟨_, rfl, S6, ?_⟩
    simp only [Act.put, List.setIfInBounds_toArray, List.set_cons_zero, List.set_cons_succ]
    refine held_call 10 (some 29) (by kernel_rfl) rfl rfl rfl 50 #[.agg (wholeC g c t), .agg (wholeC g' d u)] (by go_simp) _ (added_any g g' w6 HR5.out HR6.out hc hd (fun h => Nat.mul_ne_zero (H0.out.1 h) H0.out.2)) ?_
    rintro e w7 ⟨i, r, rfl, hR7, hW7⟩
    rw [topZ_eq] at hR7 ⊢
    have hr := hR7.len
    have hs7 := hW7.size
    have HR7 := hide hR7
    have S7 : NumAt w7 w.heap.size g k p j q ∧ NumAt w7 (w.heap.size + 1) g' k' p' j' q' := ⟨RowAt.below S6.1 hW7 (by omega), RowAt.below S6.2 hW7 (by omega)⟩
    have C7 : WholeAt w7 (w.heap.size + 1 + 1) false 0 zP := RowAt.below C6 hW7 (by omega)
    have hB7 : Below w.heap.size w w7 := hB6.trans (hW7.mono hB6.size)
    obtain ⟨G, hG⟩ : ∃ G, G = decide (topZ g n m g' n' m' < 0) := ⟨_, rfl⟩
    rw [← hG]
    have HG := hide hG
    clear S6 C6 hB6 hR7 hW7 hG
    refine ⟨_, rfl, S7, ?_⟩
    simp only [Act.put, List.setIfInBounds_toArray, List.set_cons_zero, List.set_cons_succ]
    refine held_store_whole 11 (by kernel_rfl) rfl rfl _ _ rfl rfl (w.heap.size + 1 + 1) G i r rfl rfl false 0 zP C7 zP_len hr ?_
    intro w8 hN8 hg8 hs8
    refine ⟨⟨RowAt.grown S7.1 hg8 (by simp; omega), RowAt.grown S7.2 hg8 (by simp)⟩, ?_⟩
    refine wpAnyH_done (by kernel_rfl) ?_ _
    refine NoPanic.normal ?_
    go_wp2
    refine bodyPost_ret (v := .agg (wholeC G i r)) (res_whole Tryz.results51 _ _ (w.heap.size + 1 + 1) _ _ _ rfl hN8 hr) rfl ⟨i, r, by rw [HG.out], HR7.out, ?_⟩
    exact hB7.grown hg8 (by have := hB7.size; omega) (by intro k hk; cases hk; omega)
end Go.Proofs.YtmfpnbmfcoahbaaGreatDoor
