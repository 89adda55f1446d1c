/-
  What times of impl's fractions answers, divisors being looked for ahead of multiplying: written by gen/numtimes.py.
-/
import Derived.Test.YtmfpnbmfcoahbaaGreatDoorPkReadNumA
import Derived.Test.YtmfpnbmfcoahbaaGreatDoorPkFraction
import Derived.Test.YtmfpnbmfcoahbaaGreatDoorPkMinus
import Derived.Test.YtmfpnbmfcoahbaaGreatDoorPkMath
import Derived.Test.YtmfpnbmfcoahbaaGreatDoorTwoTwo
namespace Go.Proofs.YtmfpnbmfcoahbaaGreatDoor
open Go.RowKit
set_option linter.unusedVariables false

/-- What fraction answers. -/
def FracR (g : Bool) (n m : Nat) (v : Value) : Prop := ∃ (i l : Nat) (r s : List Int), v = .agg (numC g i r l s) ∧ Rep (n / Nat.gcd n m) i r ∧ Rep (m / Nat.gcd n m) l s

set_option maxHeartbeats 2000000 in
set_option maxRecDepth 100000 in
theorem numTimes_any {n m k j n' m' k' j' : Nat} {p q p' q' : List Int} (g g' : Bool) (w : World) (hP : Rep n k p) (hQ : Rep m j q) (hP' : Rep n' k' p') (hQ' : Rep m' j' q') (hk : k ≤ 100) (hj : j ≤ 100) (hk' : k' ≤ 100) (hj' : j' ≤ 100) (h0 : j ≠ 0) (h0' : j' ≠ 0) (hg : Nat.gcd n m = 1) (hg' : Nat.gcd n' m' = 1) :
    Calls Tryz.prog 21 #[.agg (numC g k p j q), .agg (numC g' k' p' j' q')] w fun e w' => ∃ (i l : Nat) (r s : List Int), e = .returned (.agg (numC ((g != g') && decide (n * n' ≠ 0)) i r l s)) ∧ Rep (n * n' / Nat.gcd (n * n') (m * m')) i r ∧ Rep (m * m' / Nat.gcd (n * n') (m * m')) l s ∧ Below w.heap.size w w' := by
  have hz2 := zero_num.1
  have hp := hP.len
  have hq := hQ.len
  have hp' := hP'.len
  have hq' := hQ'.len
  have hm0 : 0 < m := Nat.pos_of_ne_zero fun e => h0 (hQ.zero_iff.2 e)
  have hm0' : 0 < m' := Nat.pos_of_ne_zero fun e => h0' (hQ'.zero_iff.2 e)
  have HM := hideT' (times_gcd hg hg' hm0 hm0')
  have HGG : Hid (0 < Nat.gcd n m' ∧ 0 < Nat.gcd n' m) := ⟨Nat.gcd_pos_of_pos_right n hm0', Nat.gcd_pos_of_pos_right n' hm0⟩
  have A : NumAt (((w.alloc (.cells (numC g k p j q) 48)).alloc (.cells (numC g' k' p' j' q') 48)).alloc (.cells (numC false 0 zP 0 zP) 48)) w.heap.size g k p j q := RowAt.old (RowAt.old (NumAt.new w g k p j q) _) _
  have B : NumAt (((w.alloc (.cells (numC g k p j q) 48)).alloc (.cells (numC g' k' p' j' q') 48)).alloc (.cells (numC false 0 zP 0 zP) 48)) (w.heap.size + 1) g' k' p' j' q' := by
    have := RowAt.old (NumAt.new (w.alloc (.cells (numC g k p j q) 48)) g' k' p' j' q') (.cells (numC false 0 zP 0 zP) 48)
    simp only [World.size_alloc] at this; exact this
  have C : NumAt (((w.alloc (.cells (numC g k p j q) 48)).alloc (.cells (numC g' k' p' j' q') 48)).alloc (.cells (numC false 0 zP 0 zP) 48)) (w.heap.size + 1 + 1) false 0 zP 0 zP := by
    have := NumAt.new ((w.alloc (.cells (numC g k p j q) 48)).alloc (.cells (numC g' k' p' j' q') 48)) false 0 zP 0 zP
    simp only [World.size_alloc] at this; exact this
  have hB : Below w.heap.size w (((w.alloc (.cells (numC g k p j q) 48)).alloc (.cells (numC g' k' p' j' q') 48)).alloc (.cells (numC false 0 zP 0 zP) 48)) := (((Below.refl _ _).alloc (Nat.le_refl _) _).alloc (by simp) _).alloc (by simp; omega) _
  obtain ⟨W, hWd⟩ : ∃ W, W = (((w.alloc (.cells (numC g k p j q) 48)).alloc (.cells (numC g' k' p' j' q') 48)).alloc (.cells (numC false 0 zP 0 zP) 48)) := ⟨_, rfl⟩
  have hWs : W.heap.size = w.heap.size + 1 + 1 + 1 := by rw [hWd]; simp
  have HP := hide (And.intro hP hQ)
  have HP' := hide (And.intro hP' hQ')
  clear hP hQ hP' hQ' hg hg' hm0 hm0'
  go_enter Tryz.func21, Tryz.ntmps21
  go_wp2_with fail
  rw [← hWd] at A B C hB ⊢
  clear hWd
  refine held_begin (fun w' => NumAt w' w.heap.size g k p j q ∧ NumAt w' (w.heap.size + 1) g' k' p' j' q') (by kernel_rfl) ?_
  have hS : NumAt W.drew w.heap.size g k p j q ∧ NumAt W.drew (w.heap.size + 1) g' k' p' j' q' := ⟨A, B⟩
  refine held_valS 0 (some 7) rfl rfl (by kernel_rfl) (by kernel_rfl) (by kernel_rfl) noPanic_put rfl (.pointer (some ⟨w.heap.size, 0, none⟩)) (fun _ _ => by go_simp) hS ?_
  simp only [Act.put, List.setIfInBounds_toArray, List.set_cons_zero, List.set_cons_succ]
  refine held_valS 1 (some 8) rfl rfl (by kernel_rfl) (by kernel_rfl) (by kernel_rfl) noPanic_put rfl (.agg (wholeC g k p)) (fun _ h => run_mid_whole _ rfl (w.heap.size) 0 rfl g k p (h.1.whole) hp) hS ?_
  simp only [Act.put, List.setIfInBounds_toArray, List.set_cons_zero, List.set_cons_succ]
  refine held_valS 2 (some 9) rfl rfl (by kernel_rfl) (by kernel_rfl) (by kernel_rfl) noPanic_put rfl (.pointer (some ⟨w.heap.size + 1, 206, none⟩)) (fun _ _ => by go_simp) hS ?_
  simp only [Act.put, List.setIfInBounds_toArray, List.set_cons_zero, List.set_cons_succ]
  refine held_valS 3 (some 10) rfl rfl (by kernel_rfl) (by kernel_rfl) (by kernel_rfl) noPanic_put rfl (.agg (natC j' q')) (fun _ h => run_mid_nat _ rfl (w.heap.size + 1) 206 rfl j' q' (h.2.bottom hp') hq') hS ?_
  simp only [Act.put, List.setIfInBounds_toArray, List.set_cons_zero, List.set_cons_succ]
  refine held_valS 5 (some 12) rfl rfl (by kernel_rfl) (by kernel_rfl) (by kernel_rfl) noPanic_put rfl (.pointer (some ⟨w.heap.size + 1, 0, none⟩)) (fun _ _ => by go_simp) hS ?_
  simp only [Act.put, List.setIfInBounds_toArray, List.set_cons_zero, List.set_cons_succ]
  refine held_valS 6 (some 13) rfl rfl (by kernel_rfl) (by kernel_rfl) (by kernel_rfl) noPanic_put rfl (.agg (wholeC g' k' p')) (fun _ h => run_mid_whole _ rfl (w.heap.size + 1) 0 rfl g' k' p' (h.2.whole) hp') hS ?_
  simp only [Act.put, List.setIfInBounds_toArray, List.set_cons_zero, List.set_cons_succ]
  refine held_valS 7 (some 14) rfl rfl (by kernel_rfl) (by kernel_rfl) (by kernel_rfl) noPanic_put rfl (.pointer (some ⟨w.heap.size, 206, none⟩)) (fun _ _ => by go_simp) hS ?_
  simp only [Act.put, List.setIfInBounds_toArray, List.set_cons_zero, List.set_cons_succ]
  refine held_valS 8 (some 15) rfl rfl (by kernel_rfl) (by kernel_rfl) (by kernel_rfl) noPanic_put rfl (.agg (natC j q)) (fun _ h => run_mid_nat _ rfl (w.heap.size) 206 rfl j q (h.1.bottom hp) hq) hS ?_
  simp only [Act.put, List.setIfInBounds_toArray, List.set_cons_zero, List.set_cons_succ]
  refine two_two 4 9 10 11 11 16 5 6 _ _ _ _ 48 (numC false 0 zP 0 zP) 46 46 8 10 13 15 (.agg (wholeC g k p)) (.agg (natC j' q')) (.agg (wholeC g' k' p')) (.agg (natC j q)) (FracR g n m') (FracR g' n' m) rfl rfl rfl rfl rfl rfl rfl rfl (fun _ => rfl) (fun _ => rfl) (fun _ => rfl) (fun _ => rfl) (fun _ _ => by go_simp) (fun _ _ => by go_simp) rfl rfl rfl rfl rfl rfl rfl rfl (by intro d h; rcases h with rfl | rfl | rfl | rfl <;> decide) (by decide) (by decide) (by decide) (by decide) (by decide) (by decide) (by decide) (by decide) (by decide) (by decide) (by decide) (by decide) (by kernel_rfl) (by kernel_rfl) (by kernel_rfl) (by kernel_rfl) (by kernel_rfl) (by kernel_rfl) (by kernel_rfl) (by kernel_rfl) (by kernel_rfl) (by kernel_rfl) (by kernel_rfl) hz2 ?_ ?_ ?_ ?_
  · intro w' h
    exact ⟨RowAt.below hS.1 h (show w.heap.size < W.heap.size by omega), RowAt.below hS.2 h (show w.heap.size + 1 < W.heap.size by omega)⟩
  · intro w' h
    refine (fraction_any g w' HP.out.1 HP'.out.2 (Nat.pos_of_ne_zero h0') (by omega) (by omega)).mono ?_
    rintro e w'' ⟨i, l, r, s, rfl, h1, h2, h3⟩
    exact ⟨_, rfl, ⟨i, l, r, s, rfl, h1, h2⟩, h3⟩
  · intro w' h
    refine (fraction_any g' w' HP'.out.1 HP.out.2 (Nat.pos_of_ne_zero h0) (by omega) (by omega)).mono ?_
    rintro e w'' ⟨i, l, r, s, rfl, h1, h2, h3⟩
    exact ⟨_, rfl, ⟨i, l, r, s, rfl, h1, h2⟩, h3⟩
  rintro v1 v2 px py w1 hW1 ⟨i, l, r, s, rfl, hRi, hRl⟩ ⟨i', l', r', s', rfl, hRi', hRl'⟩ hX hxb hY hyb hne
  have hW1 : Below W.heap.size W w1 := ⟨hW1.os, hW1.tape, hW1.output, hW1.size, hW1.block⟩
  have hxb : W.heap.size ≤ px := hxb
  have hyb : W.heap.size ≤ py := hyb
  have hs1 := hW1.size
  have hxl := RowAt.lt hX
  have hyl := RowAt.lt hY
  have hr := hRi.len
  have hs := hRl.len
  have hr' := hRi'.len
  have hs' := hRl'.len
  have hi : i ≤ 100 := by have := hRi.cnt_le HP.out.1 (Nat.div_le_self _ _); omega
  have hl : l ≤ 100 := by have := hRl.cnt_le HP'.out.2 (Nat.div_le_self _ _); omega
  have hi' : i' ≤ 100 := by have := hRi'.cnt_le HP'.out.1 (Nat.div_le_self _ _); omega
  have hl' : l' ≤ 100 := by have := hRl'.cnt_le HP.out.2 (Nat.div_le_self _ _); omega
  have HR := hideT' (And.intro hRi hRl)
  have HR' := hideT' (And.intro hRi' hRl')
  have A1 : NumAt w1 w.heap.size g k p j q := RowAt.below A hW1 (by omega)
  have B1 : NumAt w1 (w.heap.size + 1) g' k' p' j' q' := RowAt.below B hW1 (by omega)
  have C1 : NumAt w1 (w.heap.size + 1 + 1) false 0 zP 0 zP := RowAt.below C hW1 (by omega)
  have hB1 : Below w.heap.size w w1 := hB.trans (hW1.mono hB.size)
  clear A B C hB hS hRi hRl hRi' hRl' hW1
  simp only [Act.put, List.setIfInBounds_toArray, List.set_cons_zero, List.set_cons_succ]
  refine held_store_num 12 (by kernel_rfl) rfl rfl _ _ rfl rfl px g i r l s rfl rfl false 0 zP 0 zP hX zP_len zP_len hr hs ?_
  intro w2 hX2 hg2 hs2
  have A2 : NumAt w2 w.heap.size g k p j q := RowAt.grown A1 hg2 (by simp; omega)
  have B2 : NumAt w2 (w.heap.size + 1) g' k' p' j' q' := RowAt.grown B1 hg2 (by simp; omega)
  have C2 : NumAt w2 (w.heap.size + 1 + 1) false 0 zP 0 zP := RowAt.grown C1 hg2 (by simp; omega)
  have Y2 : NumAt w2 py false 0 zP 0 zP := RowAt.grown hY hg2 (by simp; omega)
  have hB2 : Below w.heap.size w w2 := hB1.grown hg2 (by omega) (by intro k hk; cases hk; omega)
  clear A1 B1 C1 hX hY hB1 hg2
  refine ⟨⟨A2, B2⟩, ?_⟩
  refine held_store_num 13 (by kernel_rfl) rfl rfl _ _ rfl rfl py g' i' r' l' s' rfl rfl false 0 zP 0 zP Y2 zP_len zP_len hr' hs' ?_
  intro w3 hY3 hg3 hs3
  have A3 : NumAt w3 w.heap.size g k p j q := RowAt.grown A2 hg3 (by simp; omega)
  have B3 : NumAt w3 (w.heap.size + 1) g' k' p' j' q' := RowAt.grown B2 hg3 (by simp; omega)
  have C3 : NumAt w3 (w.heap.size + 1 + 1) false 0 zP 0 zP := RowAt.grown C2 hg3 (by simp; omega)
  have X3 : NumAt w3 px g i r l s := RowAt.grown hX2 hg3 (by simp; omega)
  have hB3 : Below w.heap.size w w3 := hB2.grown hg3 (by omega) (by intro k hk; cases hk; omega)
  clear A2 B2 C2 hX2 Y2 hB2 hg3
  refine ⟨⟨A3, B3⟩, ?_⟩
  refine wpAnyH_done (by kernel_rfl) ?_ _
  refine NoPanic.normal ?_
  go_wp2_with fail
  refine held_begin (fun w' => (NumAt w' w.heap.size g k p j q ∧ NumAt w' (w.heap.size + 1) g' k' p' j' q') ∧ (NumAt w' px g i r l s ∧ NumAt w' py g' i' r' l' s')) (by kernel_rfl) ?_
  have hS : (NumAt w3.drew w.heap.size g k p j q ∧ NumAt w3.drew (w.heap.size + 1) g' k' p' j' q') ∧ (NumAt w3.drew px g i r l s ∧ NumAt w3.drew py g' i' r' l' s') := ⟨⟨A3, B3⟩, ⟨X3, hY3⟩⟩
  refine held_valS 0 (some 17) rfl rfl (by kernel_rfl) (by kernel_rfl) (by kernel_rfl) noPanic_put rfl (.pointer (some ⟨w.heap.size, 0, none⟩)) (fun _ _ => by go_simp) hS ?_
  simp only [Act.put, List.setIfInBounds_toArray, List.set_cons_zero, List.set_cons_succ]
  refine held_valS 1 (some 18) rfl rfl (by kernel_rfl) (by kernel_rfl) (by kernel_rfl) noPanic_put rfl (.pointer (some ⟨w.heap.size, 0, none⟩)) (fun _ _ => by go_simp) hS ?_
  simp only [Act.put, List.setIfInBounds_toArray, List.set_cons_zero, List.set_cons_succ]
  refine held_valS 2 (some 19) rfl rfl (by kernel_rfl) (by kernel_rfl) (by kernel_rfl) noPanic_put rfl (.bool g) (fun _ h => by have c := h.1.1.neg; go_simp) hS ?_
  simp only [Act.put, List.setIfInBounds_toArray, List.set_cons_zero, List.set_cons_succ]
  refine held_valS 3 (some 20) rfl rfl (by kernel_rfl) (by kernel_rfl) (by kernel_rfl) noPanic_put rfl (.pointer (some ⟨w.heap.size + 1, 0, none⟩)) (fun _ _ => by go_simp) hS ?_
  simp only [Act.put, List.setIfInBounds_toArray, List.set_cons_zero, List.set_cons_succ]
  refine held_valS 4 (some 21) rfl rfl (by kernel_rfl) (by kernel_rfl) (by kernel_rfl) noPanic_put rfl (.pointer (some ⟨w.heap.size + 1, 0, none⟩)) (fun _ _ => by go_simp) hS ?_
  simp only [Act.put, List.setIfInBounds_toArray, List.set_cons_zero, List.set_cons_succ]
  refine held_valS 5 (some 22) rfl rfl (by kernel_rfl) (by kernel_rfl) (by kernel_rfl) noPanic_put rfl (.bool g') (fun _ h => by have c := h.1.2.neg; go_simp) hS ?_
  simp only [Act.put, List.setIfInBounds_toArray, List.set_cons_zero, List.set_cons_succ]
  refine held_valS 6 (some 23) rfl rfl (by kernel_rfl) (by kernel_rfl) (by kernel_rfl) noPanic_put rfl (.bool (g != g')) (fun _ _ => by cases g <;> cases g' <;> go_simp) hS ?_
  simp only [Act.put, List.setIfInBounds_toArray, List.set_cons_zero, List.set_cons_succ]
  refine held_valS 7 (some 24) rfl rfl (by kernel_rfl) (by kernel_rfl) (by kernel_rfl) noPanic_put rfl (.pointer (some ⟨px, 0, none⟩)) (fun _ _ => by go_simp) hS ?_
  simp only [Act.put, List.setIfInBounds_toArray, List.set_cons_zero, List.set_cons_succ]
  refine held_valS 8 (some 25) rfl rfl (by kernel_rfl) (by kernel_rfl) (by kernel_rfl) noPanic_put rfl (.pointer (some ⟨px, 1, none⟩)) (fun _ _ => by go_simp) hS ?_
  simp only [Act.put, List.setIfInBounds_toArray, List.set_cons_zero, List.set_cons_succ]
  refine held_valS 9 (some 26) rfl rfl (by kernel_rfl) (by kernel_rfl) (by kernel_rfl) noPanic_put rfl (.agg (natC i r)) (fun _ h => run_mid_nat _ rfl (px) 1 rfl i r (h.2.1.size) hr) hS ?_
  simp only [Act.put, List.setIfInBounds_toArray, List.set_cons_zero, List.set_cons_succ]
  refine held_valS 10 (some 27) rfl rfl (by kernel_rfl) (by kernel_rfl) (by kernel_rfl) noPanic_put rfl (.pointer (some ⟨py, 0, none⟩)) (fun _ _ => by go_simp) hS ?_
  simp only [Act.put, List.setIfInBounds_toArray, List.set_cons_zero, List.set_cons_succ]
  refine held_valS 11 (some 28) rfl rfl (by kernel_rfl) (by kernel_rfl) (by kernel_rfl) noPanic_put rfl (.pointer (some ⟨py, 1, none⟩)) (fun _ _ => by go_simp) hS ?_
  simp only [Act.put, List.setIfInBounds_toArray, List.set_cons_zero, List.set_cons_succ]
  refine held_valS 12 (some 29) rfl rfl (by kernel_rfl) (by kernel_rfl) (by kernel_rfl) noPanic_put rfl (.agg (natC i' r')) (fun _ h => run_mid_nat _ rfl (py) 1 rfl i' r' (h.2.2.size) hr') hS ?_
  simp only [Act.put, List.setIfInBounds_toArray, List.set_cons_zero, List.set_cons_succ]
  refine held_valS 15 (some 32) rfl rfl (by kernel_rfl) (by kernel_rfl) (by kernel_rfl) noPanic_put rfl (.pointer (some ⟨px, 206, none⟩)) (fun _ _ => by go_simp) hS ?_
  simp only [Act.put, List.setIfInBounds_toArray, List.set_cons_zero, List.set_cons_succ]
  refine held_valS 16 (some 33) rfl rfl (by kernel_rfl) (by kernel_rfl) (by kernel_rfl) noPanic_put rfl (.agg (natC l s)) (fun _ h => run_mid_nat _ rfl (px) 206 rfl l s (h.2.1.bottom hr) hs) hS ?_
  simp only [Act.put, List.setIfInBounds_toArray, List.set_cons_zero, List.set_cons_succ]
  refine held_valS 17 (some 34) rfl rfl (by kernel_rfl) (by kernel_rfl) (by kernel_rfl) noPanic_put rfl (.pointer (some ⟨py, 206, none⟩)) (fun _ _ => by go_simp) hS ?_
  simp only [Act.put, List.setIfInBounds_toArray, List.set_cons_zero, List.set_cons_succ]
  refine held_valS 18 (some 35) rfl rfl (by kernel_rfl) (by kernel_rfl) (by kernel_rfl) noPanic_put rfl (.agg (natC l' s')) (fun _ h => run_mid_nat _ rfl (py) 206 rfl l' s' (h.2.2.bottom hr') hs') hS ?_
  simp only [Act.put, List.setIfInBounds_toArray, List.set_cons_zero, List.set_cons_succ]
  refine held_call 13 (some 30) (by kernel_rfl) rfl rfl rfl 48 #[.agg (natC i r), .agg (natC i' r')] (by go_simp) _ (times_any w3.drew HR.out.1 HR'.out.1 hi hi') ?_
  rintro e w4 ⟨c, t, rfl, hR4, hW4⟩
  have hW4 : Below w3.heap.size w3 w4 := ⟨hW4.os, hW4.tape, hW4.output, hW4.size, hW4.block⟩
  have hs4 := hW4.size
  have ht := hR4.len
  have HR4 := hideT' hR4
  have HC0 : Hid (decide (0 < c) = decide (n * n' ≠ 0)) := by
    unfold Hid
    have h := hR4.zero_iff
    have e1 : n / Nat.gcd n m' * (n' / Nat.gcd n' m) = 0 ↔ n * n' = 0 := by
      have d1 : n / Nat.gcd n m' = 0 ↔ n = 0 := ⟨fun e => by
        have := Nat.div_mul_cancel (Nat.gcd_dvd_left n m'); rw [e, Nat.zero_mul] at this; exact this.symm, fun e => by rw [e, Nat.zero_div]⟩
      have d2 : n' / Nat.gcd n' m = 0 ↔ n' = 0 := ⟨fun e => by
        have := Nat.div_mul_cancel (Nat.gcd_dvd_left n' m); rw [e, Nat.zero_mul] at this; exact this.symm, fun e => by rw [e, Nat.zero_div]⟩
      rw [Nat.mul_eq_zero, Nat.mul_eq_zero, d1, d2]
    rw [e1] at h
    by_cases e : c = 0
    · rw [decide_eq_false (by omega), decide_eq_false (by have := h.1 e; omega)]
    · rw [decide_eq_true (by omega), decide_eq_true (show n * n' ≠ 0 from fun e' => e (h.2 e'))]
  have S4 : (NumAt w4 w.heap.size g k p j q ∧ NumAt w4 (w.heap.size + 1) g' k' p' j' q') ∧ (NumAt w4 px g i r l s ∧ NumAt w4 py g' i' r' l' s') := ⟨⟨RowAt.below A3 hW4 (by omega), RowAt.below B3 hW4 (by omega)⟩, ⟨RowAt.below X3 hW4 (by omega), RowAt.below hY3 hW4 (by omega)⟩⟩
  have C4 : NumAt w4 (w.heap.size + 1 + 1) false 0 zP 0 zP := RowAt.below C3 hW4 (by omega)
  have hB4 : Below w.heap.size w w4 := hB3.trans (hW4.mono hB3.size)
  clear A3 B3 C3 X3 hY3 hB3 hS hR4 hW4
  refine ⟨_, rfl, S4, ?_⟩
  simp only [Act.put, List.setIfInBounds_toArray, List.set_cons_zero, List.set_cons_succ]
  refine held_call 14 (some 31) (by kernel_rfl) rfl rfl rfl 47 #[.bool (g != g'), .agg (natC c t)] (by go_simp) _ (wholeOf_any (g != g') c t w4 ht) ?_
  rintro e w5 ⟨rfl, hW5⟩
  rw [HC0.out]
  have hs5 := hW5.size
  have S5 : (NumAt w5 w.heap.size g k p j q ∧ NumAt w5 (w.heap.size + 1) g' k' p' j' q') ∧ (NumAt w5 px g i r l s ∧ NumAt w5 py g' i' r' l' s') := ⟨⟨RowAt.below S4.1.1 hW5 (by omega), RowAt.below S4.1.2 hW5 (by omega)⟩, ⟨RowAt.below S4.2.1 hW5 (by omega), RowAt.below S4.2.2 hW5 (by omega)⟩⟩
  have C5 : NumAt w5 (w.heap.size + 1 + 1) false 0 zP 0 zP := RowAt.below C4 hW5 (by omega)
  have hB5 : Below w.heap.size w w5 := hB4.trans (hW5.mono hB4.size)
  obtain ⟨G, hG⟩ : ∃ G, G = ((g != g') && decide (n * n' ≠ 0)) := ⟨_, rfl⟩
  rw [← hG]
  have HG := hideT' hG
  clear S4 C4 hB4 hW5 hG
  refine ⟨_, rfl, S5, ?_⟩
  simp only [Act.put, List.setIfInBounds_toArray, List.set_cons_zero, List.set_cons_succ]
  refine held_call 19 (some 36) (by kernel_rfl) rfl rfl rfl 48 #[.agg (natC l s), .agg (natC l' s')] (by go_simp) _ (times_any w5 HR.out.2 HR'.out.2 hl hl') ?_
  rintro e w6 ⟨d, u, rfl, hR6, hW6⟩
  have hs6 := hW6.size
  have hu := hR6.len
  have HR6 := hideT' hR6
  have S6 : (NumAt w6 w.heap.size g k p j q ∧ NumAt w6 (w.heap.size + 1) g' k' p' j' q') ∧ (NumAt w6 px g i r l s ∧ NumAt w6 py g' i' r' l' s') := ⟨⟨RowAt.below S5.1.1 hW6 (by omega), RowAt.below S5.1.2 hW6 (by omega)⟩, ⟨RowAt.below S5.2.1 hW6 (by omega), RowAt.below S5.2.2 hW6 (by omega)⟩⟩
  have C6 : NumAt w6 (w.heap.size + 1 + 1) false 0 zP 0 zP := RowAt.below C5 hW6 (by omega)
  have hB6 : Below w.heap.size w w6 := hB5.trans (hW6.mono hB5.size)
  clear S5 C5 hB5 hW6 hR6
  refine ⟨_, rfl, S6, ?_⟩
  simp only [Act.put, List.setIfInBounds_toArray, List.set_cons_zero, List.set_cons_succ]
  refine held_val 20 (some 37) rfl rfl (by kernel_rfl) (by kernel_rfl) (by kernel_rfl) noPanic_put rfl (.agg (numC G c t d u)) (fun _ => run_bn _ _ rfl G c t d u ht hu rfl rfl) S6 ?_
  simp only [Act.put, List.setIfInBounds_toArray, List.set_cons_zero, List.set_cons_succ]
  refine held_store_num 21 (by kernel_rfl) rfl rfl _ _ rfl rfl (w.heap.size + 1 + 1) G c t d u rfl rfl false 0 zP 0 zP C6 zP_len zP_len ht hu ?_
  intro w7 hN7 hg7 hs7
  refine ⟨⟨⟨RowAt.grown S6.1.1 hg7 (by simp; omega), RowAt.grown S6.1.2 hg7 (by simp)⟩, ⟨RowAt.grown S6.2.1 hg7 (by simp; omega), RowAt.grown S6.2.2 hg7 (by simp; omega)⟩⟩, ?_⟩
  refine wpAnyH_done (by kernel_rfl) ?_ _
  refine NoPanic.normal ?_
  go_wp2
  refine bodyPost_ret (v := .agg (numC G c t d u)) (res_num Tryz.results21 _ _ (w.heap.size + 1 + 1) _ _ _ _ _ rfl hN7 ht hu) rfl ⟨c, d, t, u, by rw [HG.out], ?_, ?_, ?_⟩
  · rw [HM.out.1, HM.out.2.1]; exact HR4.out
  · rw [HM.out.1, HM.out.2.2]; exact HR6.out
  · exact hB6.grown hg7 (by have := hB6.size; omega) (by intro k hk; cases hk; omega)
end Go.Proofs.YtmfpnbmfcoahbaaGreatDoor
