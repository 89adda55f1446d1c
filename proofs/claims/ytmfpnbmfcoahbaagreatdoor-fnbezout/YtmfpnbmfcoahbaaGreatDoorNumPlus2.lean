/-
  What plus, minus and over of impl's fractions answer: written by gen/mulnum.py.
-/
import Derived.Test.YtmfpnbmfcoahbaaGreatDoorPkNumTimes
import Derived.Test.YtmfpnbmfcoahbaaGreatDoorNumTimes2
import Derived.Test.YtmfpnbmfcoahbaaGreatDoorTwoOne
import Derived.Test.YtmfpnbmfcoahbaaGreatDoorSumTop
import Derived.Test.YtmfpnbmfcoahbaaGreatDoorPkCutNum
namespace Go.Proofs.YtmfpnbmfcoahbaaGreatDoor
open Go.RowKit
set_option linter.unusedVariables false

theorem okN_gcd {l : List UInt8} (h : okN l = true) : Nat.gcd (topN l) (botN l) = 1 := by
  rw [okN_eq] at h
  simp only [Bool.and_eq_true, Bool.or_eq_true, decide_eq_true_eq] at h
  rcases h.2 with h | h
  · rw [h, Nat.gcd_one_right]
  · exact h
theorem sg_sign (b : Bool) (x : Nat) : sg b x = (if b then (-1 : Int) else 1) * (x : Int) := by
  cases b <;> simp [sg]
/-- The top of a sum over the bottoms' common divisor. -/
def topC (g : Bool) (n m : Nat) (g' : Bool) (n' m' : Nat) : Int := topZ g n (m / Nat.gcd m m') g' n' (m' / Nat.gcd m m')
theorem plus_top {g : Bool} {n m : Nat} {g' : Bool} {n' m' : Nat} (hg : Nat.gcd n m = 1) (hg' : Nat.gcd n' m' = 1) (hm : 0 < m) (hm' : 0 < m') :
    decide (topZ g n m g' n' m' < 0) = decide (topC g n m g' n' m' < 0) ∧
    (topZ g n m g' n' m').natAbs / Nat.gcd (topZ g n m g' n' m').natAbs (m * m') = (topC g n m g' n' m').natAbs / Nat.gcd (topC g n m g' n' m').natAbs (Nat.gcd m m') ∧
    m * m' / Nat.gcd (topZ g n m g' n' m').natAbs (m * m') = Nat.gcd m m' / Nat.gcd (topC g n m g' n' m').natAbs (Nat.gcd m m') * (m / Nat.gcd m m') * (m' / Nat.gcd m m') := by
  obtain ⟨e1, e2, e3, e4⟩ := plus_gcd hg hg' hm hm' (if g then -1 else 1) (if g' then -1 else 1) (by cases g <;> simp) (by cases g' <;> simp) (topC g n m g' n' m') (by unfold topC topZ; rw [sg_sign, sg_sign])
  have hc : 0 < Nat.gcd m m' := Nat.gcd_pos_of_pos_right m hm'
  have hT : topZ g n m g' n' m' = (Nat.gcd m m' : Int) * topC g n m g' n' m' := by rw [← e1]; unfold topZ; rw [sg_sign, sg_sign]
  have hA : (topZ g n m g' n' m').natAbs = Nat.gcd m m' * (topC g n m g' n' m').natAbs := by rw [hT, Int.natAbs_mul, Int.natAbs_natCast]
  refine ⟨?_, ?_, ?_⟩
  · rw [hT]
    by_cases h : topC g n m g' n' m' < 0
    · rw [decide_eq_true h, decide_eq_true (Int.mul_neg_of_pos_of_neg (by omega) h)]
    · rw [decide_eq_false h, decide_eq_false (Int.not_lt.2 (Int.mul_nonneg (by omega) (by omega)))]
  · rw [hA, e2, e3]
  · rw [hA, e2, e4]

/-- What plus answers. -/
def PlusR (g : Bool) (n m : Nat) (g' : Bool) (n' m' : Nat) (e : Ending) : Prop := ∃ (i l : Nat) (r s : List Int), e = .returned (.agg (numC (decide (topZ g n m g' n' m' < 0)) i r l s)) ∧ Rep ((topZ g n m g' n' m').natAbs / Nat.gcd (topZ g n m g' n' m').natAbs (m * m')) i r ∧ Rep (m * m' / Nat.gcd (topZ g n m g' n' m').natAbs (m * m')) l s
def SumR (Z : Int) (v : Value) : Prop := ∃ (c : Nat) (t : List Int), v = .agg (wholeC (decide (Z < 0)) c t) ∧ Rep Z.natAbs c t ∧ c ≤ 202

set_option maxHeartbeats 4000000 in
set_option maxRecDepth 100000 in
theorem numPlus_any {n m k j n' m' k' j' : Nat} {p q p' q' : List Int} (g g' : Bool) (w : World) (hP : Rep n k p) (hQ : Rep m j q) (hP' : Rep n' k' p') (hQ' : Rep m' j' q') (hk : k ≤ 100) (hj : j ≤ 100) (hk' : k' ≤ 100) (hj' : j' ≤ 100) (h0 : g = true → n ≠ 0) (h1 : m ≠ 0) (h1' : m' ≠ 0) (hg : Nat.gcd n m = 1) (hg' : Nat.gcd n' m' = 1) :
    Calls Tryz.prog 22 #[.agg (numC g k p j q), .agg (numC g' k' p' j' q')] w fun e w' => PlusR g n m g' n' m' e ∧ Below w.heap.size w w' := by
  have hz := zero_nat.1
  have hz2 := zero_num.1
  have hp := hP.len
  have hq := hQ.len
  have hp' := hP'.len
  have hq' := hQ'.len
  have A : NumAt (((w.alloc (.cells (numC g k p j q) 48)).alloc (.cells (numC g' k' p' j' q') 48)).alloc (.cells (numC false 0 zP 0 zP) 48)) w.heap.size g k p j q := RowAt.old (RowAt.old (NumAt.new w g k p j q) _) _
  have B : NumAt (((w.alloc (.cells (numC g k p j q) 48)).alloc (.cells (numC g' k' p' j' q') 48)).alloc (.cells (numC false 0 zP 0 zP) 48)) (w.heap.size + 1) g' k' p' j' q' := by
    have := RowAt.old (NumAt.new (w.alloc (.cells (numC g k p j q) 48)) g' k' p' j' q') (.cells (numC false 0 zP 0 zP) 48)
    simp only [World.size_alloc] at this; exact this
  have C : NumAt (((w.alloc (.cells (numC g k p j q) 48)).alloc (.cells (numC g' k' p' j' q') 48)).alloc (.cells (numC false 0 zP 0 zP) 48)) (w.heap.size + 1 + 1) false 0 zP 0 zP := by
    have := NumAt.new ((w.alloc (.cells (numC g k p j q) 48)).alloc (.cells (numC g' k' p' j' q') 48)) false 0 zP 0 zP
    simp only [World.size_alloc] at this; exact this
  have hB : Below w.heap.size w (((w.alloc (.cells (numC g k p j q) 48)).alloc (.cells (numC g' k' p' j' q') 48)).alloc (.cells (numC false 0 zP 0 zP) 48)) := (((Below.refl _ _).alloc (Nat.le_refl _) _).alloc (by simp) _).alloc (by simp; omega) _
  obtain ⟨W, hWd⟩ : ∃ W, W = (((w.alloc (.cells (numC g k p j q) 48)).alloc (.cells (numC g' k' p' j' q') 48)).alloc (.cells (numC false 0 zP 0 zP) 48)) := ⟨_, rfl⟩
  have hWs : W.heap.size = w.heap.size + 1 + 1 + 1 := by rw [hWd]; simp
  have HP := hide (And.intro hP hQ)
  have HP' := hide (And.intro hP' hQ')
  have H0 := hideT' (And.intro h0 (And.intro h1 h1'))
  have HPL := hideT' (plus_top (g := g) (g' := g') hg hg' (Nat.pos_of_ne_zero h1) (Nat.pos_of_ne_zero h1'))
  clear hP hQ hP' hQ' hg hg' h0 h1 h1'
  go_enter Tryz.func22, Tryz.ntmps22
  go_wp2_with (refine load_num rfl _ rfl w.heap.size rfl g k p j q A hp hq ?_)
  rw [← hWd] at A B C hB ⊢
  clear hWd
  refine (isWhole_any (n := 0) g W hp HP.out.2).mono ?_
  rintro e w1 ⟨rfl, hW1⟩
  have hs1 := hW1.size
  have A1 : NumAt w1 w.heap.size g k p j q := RowAt.below A hW1 (by omega)
  have B1 : NumAt w1 (w.heap.size + 1) g' k' p' j' q' := RowAt.below B hW1 (by omega)
  have C1 : NumAt w1 (w.heap.size + 1 + 1) false 0 zP 0 zP := RowAt.below C hW1 (by omega)
  have hB1 : Below w.heap.size w w1 := hB.trans (hW1.mono hB.size)
  clear A B C hB hW1
  by_cases hm1 : m = 1
  · rw [decide_eq_true hm1]
    have HM1 := hideT' hm1
    clear hm1
    go_wp2_with (refine load_num_w rfl _ rfl (w.heap.size + 1) rfl g' k' p' j' q' B1 hp' hq' ?_)
    refine (isWhole_any (n := 0) g' w1 hp' HP'.out.2).mono ?_
    rintro e w2 ⟨rfl, hW2⟩
    have hs2 := hW2.size
    have A2 : NumAt w2 w.heap.size g k p j q := RowAt.below A1 hW2 (by omega)
    have B2 : NumAt w2 (w.heap.size + 1) g' k' p' j' q' := RowAt.below B1 hW2 (by omega)
    have C2 : NumAt w2 (w.heap.size + 1 + 1) false 0 zP 0 zP := RowAt.below C1 hW2 (by omega)
    have hB2 : Below w.heap.size w w2 := hB1.trans (hW2.mono hB1.size)
    clear A1 B1 C1 hB1 hW2
    by_cases hm1' : m' = 1
    · rw [decide_eq_true hm1']
      have HM1' := hideT' hm1'
      clear hm1'
      go_wp2_with fail
      refine held_begin (fun w' => NumAt w' w.heap.size g k p j q ∧ NumAt w' (w.heap.size + 1) g' k' p' j' q') (by kernel_rfl) ?_
      have hS : NumAt w2.drew w.heap.size g k p j q ∧ NumAt w2.drew (w.heap.size + 1) g' k' p' j' q' := ⟨A2, B2⟩
      refine held_valS 0 (some 13) rfl rfl (by kernel_rfl) (by kernel_rfl) (by kernel_rfl) noPanic_put rfl (.pointer (some ⟨w.heap.size, 0, none⟩)) (fun _ _ => by go_simp) hS ?_
      simp only [Act.put, List.setIfInBounds_toArray, List.set_cons_zero, List.set_cons_succ]
      refine held_valS 1 (some 14) rfl rfl (by kernel_rfl) (by kernel_rfl) (by kernel_rfl) noPanic_put rfl (.agg (wholeC g k p)) (fun _ h => run_mid_whole _ rfl (w.heap.size) 0 rfl g k p (h.1.whole) hp) hS ?_
      simp only [Act.put, List.setIfInBounds_toArray, List.set_cons_zero, List.set_cons_succ]
      refine held_valS 2 (some 15) rfl rfl (by kernel_rfl) (by kernel_rfl) (by kernel_rfl) noPanic_put rfl (.pointer (some ⟨w.heap.size + 1, 0, none⟩)) (fun _ _ => by go_simp) hS ?_
      simp only [Act.put, List.setIfInBounds_toArray, List.set_cons_zero, List.set_cons_succ]
      refine held_valS 3 (some 16) rfl rfl (by kernel_rfl) (by kernel_rfl) (by kernel_rfl) noPanic_put rfl (.agg (wholeC g' k' p')) (fun _ h => run_mid_whole _ rfl (w.heap.size + 1) 0 rfl g' k' p' (h.2.whole) hp') hS ?_
      simp only [Act.put, List.setIfInBounds_toArray, List.set_cons_zero, List.set_cons_succ]
      refine held_valS 5 (some 18) rfl rfl (by kernel_rfl) (by kernel_rfl) (by kernel_rfl) noPanic_put rfl (.pointer (some ⟨w.heap.size, 206, none⟩)) (fun _ _ => by go_simp) hS ?_
      simp only [Act.put, List.setIfInBounds_toArray, List.set_cons_zero, List.set_cons_succ]
      refine held_valS 6 (some 19) rfl rfl (by kernel_rfl) (by kernel_rfl) (by kernel_rfl) noPanic_put rfl (.agg (natC j q)) (fun _ h => run_mid_nat _ rfl (w.heap.size) 206 rfl j q (h.1.bottom hp) hq) hS ?_
      simp only [Act.put, List.setIfInBounds_toArray, List.set_cons_zero, List.set_cons_succ]
      refine held_call 4 (some 17) (by kernel_rfl) rfl rfl rfl 50 #[.agg (wholeC g k p), .agg (wholeC g' k' p')] (by go_simp) _ (added_any g g' w2.drew HP.out.1 HP'.out.1 (by omega) (by omega) H0.out.1) ?_
      rintro e w3 ⟨i, r, rfl, hRi, hW3⟩
      have hW3 : Below w2.heap.size w2 w3 := ⟨hW3.os, hW3.tape, hW3.output, hW3.size, hW3.block⟩
      have hs3 := hW3.size
      have hr := hRi.len
      have hZ : topZ g n m g' n' m' = sg g n + sg g' n' := by unfold topZ; rw [HM1.out, HM1'.out]; simp
      have HANS : Hid (PlusR g n m g' n' m' (.returned (.agg (numC (decide (sg g n + sg g' n' < 0)) i r j q)))) := by
        refine ⟨i, j, r, q, by rw [hZ], ?_, ?_⟩
        · rw [hZ, HM1.out, HM1'.out, Nat.mul_one, Nat.gcd_one_right, Nat.div_one]; exact hRi
        · rw [HM1.out, HM1'.out, Nat.mul_one, Nat.gcd_one_right, Nat.div_one]; have := HP.out.2; rw [HM1.out] at this; exact this
      have S3 : NumAt w3 w.heap.size g k p j q ∧ NumAt w3 (w.heap.size + 1) g' k' p' j' q' := ⟨RowAt.below A2 hW3 (by omega), RowAt.below B2 hW3 (by omega)⟩
      have C3 : NumAt w3 (w.heap.size + 1 + 1) false 0 zP 0 zP := RowAt.below C2 hW3 (by omega)
      have hB3 : Below w.heap.size w w3 := hB2.trans (hW3.mono hB2.size)
      obtain ⟨G, hG⟩ : ∃ G, G = decide (sg g n + sg g' n' < 0) := ⟨_, rfl⟩
      rw [← hG] at HANS ⊢
      clear A2 B2 C2 hB2 hW3 hS hRi hZ hG
      refine ⟨_, rfl, S3, ?_⟩
      simp only [Act.put, List.setIfInBounds_toArray, List.set_cons_zero, List.set_cons_succ]
      refine held_val 7 (some 20) rfl rfl (by kernel_rfl) (by kernel_rfl) (by kernel_rfl) noPanic_put rfl (.agg (numC G i r j q)) (fun _ => run_bn _ _ rfl G i r j q hr hq rfl rfl) S3 ?_
      simp only [Act.put, List.setIfInBounds_toArray, List.set_cons_zero, List.set_cons_succ]
      refine held_store_num 8 (by kernel_rfl) rfl rfl _ _ rfl rfl (w.heap.size + 1 + 1) G i r j q rfl rfl false 0 zP 0 zP C3 zP_len zP_len hr hq ?_
      intro w4 hN4 hg4 hs4
      refine ⟨⟨RowAt.grown S3.1 hg4 (by simp; omega), RowAt.grown S3.2 hg4 (by simp)⟩, ?_⟩
      refine wpAnyH_done (by kernel_rfl) ?_ _
      refine NoPanic.normal ?_
      go_wp2
      refine bodyPost_ret (v := .agg (numC G i r j q)) (res_num Tryz.results22 _ _ (w.heap.size + 1 + 1) _ _ _ _ _ rfl hN4 hr hq) rfl ⟨HANS.out, ?_⟩
      exact hB3.grown hg4 (by have := hB3.size; omega) (by intro k hk; cases hk; omega)
    · rw [decide_eq_false hm1']
      clear hm1'
      go_wp2_with (first | (refine load_mid_nat rfl _ rfl w.heap.size 206 rfl j q (A2.bottom hp) hq ?_) | (refine load_mid_nat rfl _ rfl (w.heap.size + 1) 206 rfl j' q' (B2.bottom hp') hq' ?_))
      refine (gcd_any _ HP.out.2 HP'.out.2 (by omega) (by omega)).mono ?_
      rintro e w3 ⟨c, t, rfl, hRc, hW3⟩
      have ht := hRc.len
      have hs3 := hW3.size
      have hc0 : 0 < c := Nat.pos_of_ne_zero fun e => H0.out.2.1 (Nat.eq_zero_of_gcd_eq_zero_left (hRc.zero_iff.1 e))
      have hc100 : c ≤ 100 := by have := hRc.cnt_le HP.out.2 (Nat.gcd_le_left _ (Nat.pos_of_ne_zero H0.out.2.1)); omega
      have HRC := hideT' hRc
      have A3 : NumAt w3 w.heap.size g k p j q := RowAt.below A2 hW3 (by omega)
      have B3 : NumAt w3 (w.heap.size + 1) g' k' p' j' q' := RowAt.below B2 hW3 (by omega)
      have C3 : NumAt w3 (w.heap.size + 1 + 1) false 0 zP 0 zP := RowAt.below C2 hW3 (by omega)
      have hB3 : Below w.heap.size w w3 := hB2.trans (hW3.mono hB2.size)
      have F3 := NatAt.new w3 0 zP
      clear A2 B2 C2 hB2 hW3 hRc
      go_wp2_with (first | (refine store_nat rfl _ _ rfl rfl w3.heap.size c t rfl rfl 0 zP F3 zP_len ht ?_; intro w4 F4 hg4 hs4; have A4 : NumAt w4 w.heap.size g k p j q := RowAt.grown (RowAt.old A3 (.cells (natC 0 zP) 32)) hg4 (by simp; omega); have B4 : NumAt w4 (w.heap.size + 1) g' k' p' j' q' := RowAt.grown (RowAt.old B3 (.cells (natC 0 zP) 32)) hg4 (by simp; omega)) | (refine load_mid_nat rfl _ rfl w.heap.size 206 rfl j q (A4.bottom hp) hq ?_) | (refine load_nat rfl _ rfl w3.heap.size rfl c t F4 ht ?_))
      have hs4' : w4.heap.size = w3.heap.size + 1 := by rw [hs4]; simp
      have C4 : NumAt w4 (w.heap.size + 1 + 1) false 0 zP 0 zP := RowAt.grown (RowAt.old C3 (.cells (natC 0 zP) 32)) hg4 (by simp; omega)
      have hB4 : Below w.heap.size w w4 := (hB3.alloc (by omega) _).grown hg4 (by simp; omega) (by intro k hk; cases hk; omega)
      clear A3 B3 C3 F3 hB3 hg4 hs4
      refine (divide_any w4 HP.out.2 HRC.out hc0 (by omega)).mono ?_
      rintro e w5 ⟨d, d2, u, u2, rfl, hR5, hR5', hW5⟩
      have hu := hR5.len
      have hd100 : d ≤ 100 := by have := hR5.cnt_le HP.out.2 (Nat.div_le_self _ _); omega
      have HR5 := hideT' hR5
      have hs5 := hW5.size
      have A5 : NumAt w5 w.heap.size g k p j q := RowAt.below A4 hW5 (by omega)
      have B5 : NumAt w5 (w.heap.size + 1) g' k' p' j' q' := RowAt.below B4 hW5 (by omega)
      have C5 : NumAt w5 (w.heap.size + 1 + 1) false 0 zP 0 zP := RowAt.below C4 hW5 (by omega)
      have F5 := F4.below hW5 (by omega)
      have hB5 : Below w.heap.size w w5 := hB4.trans (hW5.mono hB4.size)
      clear A4 B4 C4 F4 hB4 hW5 hR5 hR5'
      go_wp2_with (first | (refine store_bottom rfl _ _ rfl rfl w.heap.size d u rfl rfl g k p j q A5 hp hq hu ?_; intro w6 A6 hg6 hs6; have B6 : NumAt w6 (w.heap.size + 1) g' k' p' j' q' := RowAt.grown B5 hg6 (by simp); have F6 := F5.grown hg6 (by simp; omega)) | (refine load_mid_nat rfl _ rfl (w.heap.size + 1) 206 rfl j' q' (B6.bottom hp') hq' ?_) | (refine load_nat rfl _ rfl w3.heap.size rfl c t F6 ht ?_))
      have C6 : NumAt w6 (w.heap.size + 1 + 1) false 0 zP 0 zP := RowAt.grown C5 hg6 (by simp; omega)
      have hB6 : Below w.heap.size w w6 := hB5.grown hg6 (by omega) (by intro k hk; cases hk; omega)
      clear A5 B5 C5 F5 hB5 hg6
      refine (divide_any w6 HP'.out.2 HRC.out hc0 (by omega)).mono ?_
      rintro e w7 ⟨f, f2, x, x2, rfl, hR7, hR7', hW7⟩
      have hx := hR7.len
      have hf100 : f ≤ 100 := by have := hR7.cnt_le HP'.out.2 (Nat.div_le_self _ _); omega
      have HR7 := hideT' hR7
      have hs7 := hW7.size
      have A7 : NumAt w7 w.heap.size g k p d u := RowAt.below A6 hW7 (by omega)
      have B7 : NumAt w7 (w.heap.size + 1) g' k' p' j' q' := RowAt.below B6 hW7 (by omega)
      have C7 : NumAt w7 (w.heap.size + 1 + 1) false 0 zP 0 zP := RowAt.below C6 hW7 (by omega)
      have F7 := F6.below hW7 (by omega)
      have hB7 : Below w.heap.size w w7 := hB6.trans (hW7.mono hB6.size)
      clear A6 B6 C6 F6 hB6 hW7 hR7 hR7'
      go_wp2_with (refine store_bottom rfl _ _ rfl rfl (w.heap.size + 1) f x rfl rfl g' k' p' j' q' B7 hp' hq' hx ?_; intro w8 B8 hg8 hs8)
      have A8 : NumAt w8 w.heap.size g k p d u := RowAt.grown A7 hg8 (by simp)
      have C8 : NumAt w8 (w.heap.size + 1 + 1) false 0 zP 0 zP := RowAt.grown C7 hg8 (by simp)
      have F8 := F7.grown hg8 (by simp; omega)
      have hB8 : Below w.heap.size w w8 := hB7.grown hg8 (by omega) (by intro k hk; cases hk; omega)
      have hs8' : w8.heap.size = w7.heap.size := hs8
      clear A7 B7 C7 F7 hB7 hg8 hs8
      have HD0 : Hid (m' / Nat.gcd m m' ≠ 0) := by
        intro e
        have := Nat.div_mul_cancel (Nat.gcd_dvd_right m m')
        rw [e, Nat.zero_mul] at this
        exact H0.out.2.2 this.symm
      refine held_begin (fun w' => (NumAt w' w.heap.size g k p d u ∧ NumAt w' (w.heap.size + 1) g' k' p' f x) ∧ NatAt w' w3.heap.size c t) (by kernel_rfl) ?_
      have hS : (NumAt w8.drew w.heap.size g k p d u ∧ NumAt w8.drew (w.heap.size + 1) g' k' p' f x) ∧ NatAt w8.drew w3.heap.size c t := ⟨⟨A8, B8⟩, F8⟩
      refine held_load_num 0 (some 42) rfl rfl (by kernel_rfl) (by kernel_rfl) (by kernel_rfl) noPanic_put rfl _ rfl (w.heap.size) rfl g k p d u (fun _ h => h.1.1) hp hu hS ?_
      simp only [Act.put, List.setIfInBounds_toArray, List.set_cons_zero, List.set_cons_succ]
      refine held_load_num 1 (some 43) rfl rfl (by kernel_rfl) (by kernel_rfl) (by kernel_rfl) noPanic_put rfl _ rfl (w.heap.size + 1) rfl g' k' p' f x (fun _ h => h.1.2) hp' hx hS ?_
      simp only [Act.put, List.setIfInBounds_toArray, List.set_cons_zero, List.set_cons_succ]
      refine held_load 3 (some 45) rfl rfl (by kernel_rfl) (by kernel_rfl) (by kernel_rfl) noPanic_put rfl _ rfl w3.heap.size rfl c t (fun _ h => h.2) ht hS ?_
      simp only [Act.put, List.setIfInBounds_toArray, List.set_cons_zero, List.set_cons_succ]
      refine calls_two_one 2 4 5 44 46 6 _ _ _ 48 (numC false 0 zP 0 zP) 51 46 42 43 45 (.agg (numC g k p d u)) (.agg (numC g' k' p' f x)) (.agg (natC c t)) (SumR (topC g n m g' n' m')) (fun _ v => FracR (decide (topC g n m g' n' m' < 0)) (topC g n m g' n' m').natAbs (Nat.gcd m m') v) rfl rfl rfl rfl rfl rfl (fun _ => rfl) (fun _ => rfl) (fun _ => rfl) (fun _ _ => by go_simp) (fun _ _ => by go_simp) rfl rfl rfl rfl rfl rfl (by simp) (by intro d h; rcases h with rfl | rfl | rfl <;> decide) (by decide) (by decide) (by decide) (by decide) (by decide) (by decide) (by kernel_rfl) (by kernel_rfl) (by kernel_rfl) (by kernel_rfl) (by kernel_rfl) hz2 ?_ ?_ ?_ ?_
      · intro w' h
        have hlt := F8.lt
        exact ⟨⟨RowAt.below hS.1.1 h (show w.heap.size < w8.heap.size by omega), RowAt.below hS.1.2 h (show w.heap.size + 1 < w8.heap.size by omega)⟩, hS.2.below h (show w3.heap.size < w8.heap.size by omega)⟩
      · intro w' h
        refine (sumTop_any g g' w' HP.out.1 HR5.out HP'.out.1 HR7.out hk hd100 hk' hf100 H0.out.1 HD0.out).mono ?_
        rintro e w'' ⟨i, r, rfl, h2, h3⟩
        exact ⟨_, rfl, ⟨i, r, rfl, h2, by have := topZ_used HP.out.1 HR5.out HP'.out.1 HR7.out hk hd100 hk' hf100 h2; omega⟩, h3⟩
      · rintro v1 w' ⟨i, r, rfl, h1, h2⟩ h
        refine (fraction_any (decide (topC g n m g' n' m' < 0)) w' h1 HRC.out hc0 h2 (by omega)).mono ?_
        rintro e w'' ⟨i, l, r, s, rfl, h1, h2, h3⟩
        exact ⟨_, rfl, ⟨i, l, r, s, rfl, h1, h2⟩, h3⟩
      rintro v1 v2 px w9 hW9 - ⟨i, l, r, s, rfl, hRi, hRl⟩ hX hxb
      have hW9 : Below w8.heap.size w8 w9 := ⟨hW9.os, hW9.tape, hW9.output, hW9.size, hW9.block⟩
      have hxb : w8.heap.size ≤ px := hxb
      have hs9 := hW9.size
      have hxl := RowAt.lt hX
      have hfl := F8.lt
      have hr := hRi.len
      have hs := hRl.len
      have hl100 : l ≤ 100 := by have := hRl.cnt_le HRC.out (Nat.div_le_self _ _); omega
      have HR := hideT' (And.intro hRi hRl)
      have A9 : NumAt w9 w.heap.size g k p d u := RowAt.below A8 hW9 (by omega)
      have B9 : NumAt w9 (w.heap.size + 1) g' k' p' f x := RowAt.below B8 hW9 (by omega)
      have C9 : NumAt w9 (w.heap.size + 1 + 1) false 0 zP 0 zP := RowAt.below C8 hW9 (by omega)
      have F9 := F8.below hW9 (by omega)
      have hB9 : Below w.heap.size w w9 := hB8.trans (hW9.mono hB8.size)
      obtain ⟨G, hG⟩ : ∃ G, G = decide (topC g n m g' n' m' < 0) := ⟨_, rfl⟩
      rw [← hG]
      have HG := hideT' hG
      clear A8 B8 C8 F8 hB8 hS hRi hRl hW9 hG
      simp only [Act.put, List.setIfInBounds_toArray, List.set_cons_zero, List.set_cons_succ]
      refine held_store_num 6 (by kernel_rfl) rfl rfl _ _ rfl rfl px G i r l s rfl rfl false 0 zP 0 zP hX zP_len zP_len hr hs ?_
      intro wa Xa hga hsa
      have Aa : NumAt wa w.heap.size g k p d u := RowAt.grown A9 hga (by simp; omega)
      have Ba : NumAt wa (w.heap.size + 1) g' k' p' f x := RowAt.grown B9 hga (by simp; omega)
      have Ca : NumAt wa (w.heap.size + 1 + 1) false 0 zP 0 zP := RowAt.grown C9 hga (by simp; omega)
      have Fa := F9.grown hga (by simp; omega)
      have hBa : Below w.heap.size w wa := hB9.grown hga (by omega) (by intro k hk; cases hk; omega)
      clear A9 B9 C9 F9 hX hB9 hga
      refine ⟨⟨⟨Aa, Ba⟩, Fa⟩, ?_⟩
      clear Fa
      refine wpAnyH_done (by kernel_rfl) ?_ _
      refine NoPanic.normal ?_
      go_wp2_with fail
      refine held_begin (fun w' => (NumAt w' w.heap.size g k p d u ∧ NumAt w' (w.heap.size + 1) g' k' p' f x) ∧ NumAt w' px G i r l s) (by kernel_rfl) ?_
      have hS : (NumAt wa.drew w.heap.size g k p d u ∧ NumAt wa.drew (w.heap.size + 1) g' k' p' f x) ∧ NumAt wa.drew px G i r l s := ⟨⟨Aa, Ba⟩, Xa⟩
      refine held_valS 0 (some 47) rfl rfl (by kernel_rfl) (by kernel_rfl) (by kernel_rfl) noPanic_put rfl (.pointer (some ⟨px, 0, none⟩)) (fun _ _ => by go_simp) hS ?_
      simp only [Act.put, List.setIfInBounds_toArray, List.set_cons_zero, List.set_cons_succ]
      refine held_valS 1 (some 48) rfl rfl (by kernel_rfl) (by kernel_rfl) (by kernel_rfl) noPanic_put rfl (.agg (wholeC G i r)) (fun _ h => run_mid_whole _ rfl (px) 0 rfl G i r (h.2.whole) hr) hS ?_
      simp only [Act.put, List.setIfInBounds_toArray, List.set_cons_zero, List.set_cons_succ]
      refine held_valS 2 (some 49) rfl rfl (by kernel_rfl) (by kernel_rfl) (by kernel_rfl) noPanic_put rfl (.pointer (some ⟨px, 206, none⟩)) (fun _ _ => by go_simp) hS ?_
      simp only [Act.put, List.setIfInBounds_toArray, List.set_cons_zero, List.set_cons_succ]
      refine held_valS 3 (some 50) rfl rfl (by kernel_rfl) (by kernel_rfl) (by kernel_rfl) noPanic_put rfl (.agg (natC l s)) (fun _ h => run_mid_nat _ rfl (px) 206 rfl l s (h.2.bottom hr) hs) hS ?_
      simp only [Act.put, List.setIfInBounds_toArray, List.set_cons_zero, List.set_cons_succ]
      refine held_valS 4 (some 51) rfl rfl (by kernel_rfl) (by kernel_rfl) (by kernel_rfl) noPanic_put rfl (.pointer (some ⟨w.heap.size, 206, none⟩)) (fun _ _ => by go_simp) hS ?_
      simp only [Act.put, List.setIfInBounds_toArray, List.set_cons_zero, List.set_cons_succ]
      refine held_valS 5 (some 52) rfl rfl (by kernel_rfl) (by kernel_rfl) (by kernel_rfl) noPanic_put rfl (.agg (natC d u)) (fun _ h => run_mid_nat _ rfl (w.heap.size) 206 rfl d u (h.1.1.bottom hp) hu) hS ?_
      simp only [Act.put, List.setIfInBounds_toArray, List.set_cons_zero, List.set_cons_succ]
      refine held_valS 7 (some 54) rfl rfl (by kernel_rfl) (by kernel_rfl) (by kernel_rfl) noPanic_put rfl (.pointer (some ⟨w.heap.size + 1, 206, none⟩)) (fun _ _ => by go_simp) hS ?_
      simp only [Act.put, List.setIfInBounds_toArray, List.set_cons_zero, List.set_cons_succ]
      refine held_valS 8 (some 55) rfl rfl (by kernel_rfl) (by kernel_rfl) (by kernel_rfl) noPanic_put rfl (.agg (natC f x)) (fun _ h => run_mid_nat _ rfl (w.heap.size + 1) 206 rfl f x (h.1.2.bottom hp') hx) hS ?_
      simp only [Act.put, List.setIfInBounds_toArray, List.set_cons_zero, List.set_cons_succ]
      refine held_call 6 (some 53) (by kernel_rfl) rfl rfl rfl 48 #[.agg (natC l s), .agg (natC d u)] (by go_simp) _ (times_any wa.drew HR.out.2 HR5.out hl100 hd100) ?_
      rintro e wb ⟨y, y', rfl, hRb, hWb⟩
      have hWb : Below wa.heap.size wa wb := ⟨hWb.os, hWb.tape, hWb.output, hWb.size, hWb.block⟩
      have hsb := hWb.size
      have hyl := hRb.len
      have hy100 : y ≤ 100 := by
        have hle : Nat.gcd m m' / Nat.gcd (topC g n m g' n' m').natAbs (Nat.gcd m m') * (m / Nat.gcd m m') ≤ m := by
          have h2 := Nat.mul_le_mul_right (m / Nat.gcd m m') (Nat.div_le_self (Nat.gcd m m') (Nat.gcd (topC g n m g' n' m').natAbs (Nat.gcd m m')))
          have h3 := Nat.mul_div_cancel' (Nat.gcd_dvd_left m m')
          omega
        have := hRb.cnt_le HP.out.2 hle; omega
      have HRb := hideT' hRb
      have Sb : (NumAt wb w.heap.size g k p d u ∧ NumAt wb (w.heap.size + 1) g' k' p' f x) ∧ NumAt wb px G i r l s := ⟨⟨RowAt.below Aa hWb (by omega), RowAt.below Ba hWb (by omega)⟩, RowAt.below Xa hWb (by omega)⟩
      have Cb : NumAt wb (w.heap.size + 1 + 1) false 0 zP 0 zP := RowAt.below Ca hWb (by omega)
      have hBb : Below w.heap.size w wb := hBa.trans (hWb.mono hBa.size)
      clear Aa Ba Ca Xa hBa hS hRb hWb
      refine ⟨_, rfl, Sb, ?_⟩
      simp only [Act.put, List.setIfInBounds_toArray, List.set_cons_zero, List.set_cons_succ]
      refine held_call 9 (some 56) (by kernel_rfl) rfl rfl rfl 48 #[.agg (natC y y'), .agg (natC f x)] (by go_simp) _ (times_any wb HRb.out HR7.out hy100 hf100) ?_
      rintro e wc ⟨z, z', rfl, hRz, hWc⟩
      have hsc := hWc.size
      have hzl := hRz.len
      have HRz := hideT' hRz
      have Sc : (NumAt wc w.heap.size g k p d u ∧ NumAt wc (w.heap.size + 1) g' k' p' f x) ∧ NumAt wc px G i r l s := ⟨⟨RowAt.below Sb.1.1 hWc (by omega), RowAt.below Sb.1.2 hWc (by omega)⟩, RowAt.below Sb.2 hWc (by omega)⟩
      have Cc : NumAt wc (w.heap.size + 1 + 1) false 0 zP 0 zP := RowAt.below Cb hWc (by omega)
      have hBc : Below w.heap.size w wc := hBb.trans (hWc.mono hBb.size)
      clear Sb Cb hBb hRz hWc
      refine ⟨_, rfl, Sc, ?_⟩
      simp only [Act.put, List.setIfInBounds_toArray, List.set_cons_zero, List.set_cons_succ]
      refine held_val 10 (some 57) rfl rfl (by kernel_rfl) (by kernel_rfl) (by kernel_rfl) noPanic_put rfl (.agg (numC G i r z z')) (fun _ => run_bn _ _ rfl G i r z z' hr hzl rfl rfl) Sc ?_
      simp only [Act.put, List.setIfInBounds_toArray, List.set_cons_zero, List.set_cons_succ]
      refine held_store_num 11 (by kernel_rfl) rfl rfl _ _ rfl rfl (w.heap.size + 1 + 1) G i r z z' rfl rfl false 0 zP 0 zP Cc zP_len zP_len hr hzl ?_
      intro wd hNd hgd hsd
      refine ⟨⟨⟨RowAt.grown Sc.1.1 hgd (by simp; omega), RowAt.grown Sc.1.2 hgd (by simp)⟩, RowAt.grown Sc.2 hgd (by simp; omega)⟩, ?_⟩
      refine wpAnyH_done (by kernel_rfl) ?_ _
      refine NoPanic.normal ?_
      go_wp2
      refine bodyPost_ret (v := .agg (numC G i r z z')) (res_num Tryz.results22 _ _ (w.heap.size + 1 + 1) _ _ _ _ _ rfl hNd hr hzl) rfl ⟨⟨i, z, r, z', by rw [HG.out, HPL.out.1], ?_, ?_⟩, ?_⟩
      · rw [HPL.out.2.1]; exact HR.out.1
      · rw [HPL.out.2.2]; exact HRz.out
      · exact hBc.grown hgd (by have := hBc.size; omega) (by intro k hk; cases hk; omega)
  · rw [decide_eq_false hm1]
    clear hm1
    go_wp2_with (first | (refine load_mid_nat rfl _ rfl w.heap.size 206 rfl j q (A1.bottom hp) hq ?_) | (refine load_mid_nat rfl _ rfl (w.heap.size + 1) 206 rfl j' q' (B1.bottom hp') hq' ?_))
    refine (gcd_any _ HP.out.2 HP'.out.2 (by omega) (by omega)).mono ?_
    rintro e w3 ⟨c, t, rfl, hRc, hW3⟩
    have ht := hRc.len
    have hs3 := hW3.size
    have hc0 : 0 < c := Nat.pos_of_ne_zero fun e => H0.out.2.1 (Nat.eq_zero_of_gcd_eq_zero_left (hRc.zero_iff.1 e))
    have hc100 : c ≤ 100 := by have := hRc.cnt_le HP.out.2 (Nat.gcd_le_left _ (Nat.pos_of_ne_zero H0.out.2.1)); omega
    have HRC := hideT' hRc
    have A3 : NumAt w3 w.heap.size g k p j q := RowAt.below A1 hW3 (by omega)
    have B3 : NumAt w3 (w.heap.size + 1) g' k' p' j' q' := RowAt.below B1 hW3 (by omega)
    have C3 : NumAt w3 (w.heap.size + 1 + 1) false 0 zP 0 zP := RowAt.below C1 hW3 (by omega)
    have hB3 : Below w.heap.size w w3 := hB1.trans (hW3.mono hB1.size)
    have F3 := NatAt.new w3 0 zP
    clear A1 B1 C1 hB1 hW3 hRc
    go_wp2_with (first | (refine store_nat rfl _ _ rfl rfl w3.heap.size c t rfl rfl 0 zP F3 zP_len ht ?_; intro w4 F4 hg4 hs4; have A4 : NumAt w4 w.heap.size g k p j q := RowAt.grown (RowAt.old A3 (.cells (natC 0 zP) 32)) hg4 (by simp; omega); have B4 : NumAt w4 (w.heap.size + 1) g' k' p' j' q' := RowAt.grown (RowAt.old B3 (.cells (natC 0 zP) 32)) hg4 (by simp; omega)) | (refine load_mid_nat rfl _ rfl w.heap.size 206 rfl j q (A4.bottom hp) hq ?_) | (refine load_nat rfl _ rfl w3.heap.size rfl c t F4 ht ?_))
    have hs4' : w4.heap.size = w3.heap.size + 1 := by rw [hs4]; simp
    have C4 : NumAt w4 (w.heap.size + 1 + 1) false 0 zP 0 zP := RowAt.grown (RowAt.old C3 (.cells (natC 0 zP) 32)) hg4 (by simp; omega)
    have hB4 : Below w.heap.size w w4 := (hB3.alloc (by omega) _).grown hg4 (by simp; omega) (by intro k hk; cases hk; omega)
    clear A3 B3 C3 F3 hB3 hg4 hs4
    refine (divide_any w4 HP.out.2 HRC.out hc0 (by omega)).mono ?_
    rintro e w5 ⟨d, d2, u, u2, rfl, hR5, hR5', hW5⟩
    have hu := hR5.len
    have hd100 : d ≤ 100 := by have := hR5.cnt_le HP.out.2 (Nat.div_le_self _ _); omega
    have HR5 := hideT' hR5
    have hs5 := hW5.size
    have A5 : NumAt w5 w.heap.size g k p j q := RowAt.below A4 hW5 (by omega)
    have B5 : NumAt w5 (w.heap.size + 1) g' k' p' j' q' := RowAt.below B4 hW5 (by omega)
    have C5 : NumAt w5 (w.heap.size + 1 + 1) false 0 zP 0 zP := RowAt.below C4 hW5 (by omega)
    have F5 := F4.below hW5 (by omega)
    have hB5 : Below w.heap.size w w5 := hB4.trans (hW5.mono hB4.size)
    clear A4 B4 C4 F4 hB4 hW5 hR5 hR5'
    go_wp2_with (first | (refine store_bottom rfl _ _ rfl rfl w.heap.size d u rfl rfl g k p j q A5 hp hq hu ?_; intro w6 A6 hg6 hs6; have B6 : NumAt w6 (w.heap.size + 1) g' k' p' j' q' := RowAt.grown B5 hg6 (by simp); have F6 := F5.grown hg6 (by simp; omega)) | (refine load_mid_nat rfl _ rfl (w.heap.size + 1) 206 rfl j' q' (B6.bottom hp') hq' ?_) | (refine load_nat rfl _ rfl w3.heap.size rfl c t F6 ht ?_))
    have C6 : NumAt w6 (w.heap.size + 1 + 1) false 0 zP 0 zP := RowAt.grown C5 hg6 (by simp; omega)
    have hB6 : Below w.heap.size w w6 := hB5.grown hg6 (by omega) (by intro k hk; cases hk; omega)
    clear A5 B5 C5 F5 hB5 hg6
    refine (divide_any w6 HP'.out.2 HRC.out hc0 (by omega)).mono ?_
    rintro e w7 ⟨f, f2, x, x2, rfl, hR7, hR7', hW7⟩
    have hx := hR7.len
    have hf100 : f ≤ 100 := by have := hR7.cnt_le HP'.out.2 (Nat.div_le_self _ _); omega
    have HR7 := hideT' hR7
    have hs7 := hW7.size
    have A7 : NumAt w7 w.heap.size g k p d u := RowAt.below A6 hW7 (by omega)
    have B7 : NumAt w7 (w.heap.size + 1) g' k' p' j' q' := RowAt.below B6 hW7 (by omega)
    have C7 : NumAt w7 (w.heap.size + 1 + 1) false 0 zP 0 zP := RowAt.below C6 hW7 (by omega)
    have F7 := F6.below hW7 (by omega)
    have hB7 : Below w.heap.size w w7 := hB6.trans (hW7.mono hB6.size)
    clear A6 B6 C6 F6 hB6 hW7 hR7 hR7'
    go_wp2_with (refine store_bottom rfl _ _ rfl rfl (w.heap.size + 1) f x rfl rfl g' k' p' j' q' B7 hp' hq' hx ?_; intro w8 B8 hg8 hs8)
    have A8 : NumAt w8 w.heap.size g k p d u := RowAt.grown A7 hg8 (by simp)
    have C8 : NumAt w8 (w.heap.size + 1 + 1) false 0 zP 0 zP := RowAt.grown C7 hg8 (by simp)
    have F8 := F7.grown hg8 (by simp; omega)
    have hB8 : Below w.heap.size w w8 := hB7.grown hg8 (by omega) (by intro k hk; cases hk; omega)
    have hs8' : w8.heap.size = w7.heap.size := hs8
    clear A7 B7 C7 F7 hB7 hg8 hs8
    have HD0 : Hid (m' / Nat.gcd m m' ≠ 0) := by
      intro e
      have := Nat.div_mul_cancel (Nat.gcd_dvd_right m m')
      rw [e, Nat.zero_mul] at this
      exact H0.out.2.2 this.symm
    refine held_begin (fun w' => (NumAt w' w.heap.size g k p d u ∧ NumAt w' (w.heap.size + 1) g' k' p' f x) ∧ NatAt w' w3.heap.size c t) (by kernel_rfl) ?_
    have hS : (NumAt w8.drew w.heap.size g k p d u ∧ NumAt w8.drew (w.heap.size + 1) g' k' p' f x) ∧ NatAt w8.drew w3.heap.size c t := ⟨⟨A8, B8⟩, F8⟩
    refine held_load_num 0 (some 42) rfl rfl (by kernel_rfl) (by kernel_rfl) (by kernel_rfl) noPanic_put rfl _ rfl (w.heap.size) rfl g k p d u (fun _ h => h.1.1) hp hu hS ?_
    simp only [Act.put, List.setIfInBounds_toArray, List.set_cons_zero, List.set_cons_succ]
    refine held_load_num 1 (some 43) rfl rfl (by kernel_rfl) (by kernel_rfl) (by kernel_rfl) noPanic_put rfl _ rfl (w.heap.size + 1) rfl g' k' p' f x (fun _ h => h.1.2) hp' hx hS ?_
    simp only [Act.put, List.setIfInBounds_toArray, List.set_cons_zero, List.set_cons_succ]
    refine held_load 3 (some 45) rfl rfl (by kernel_rfl) (by kernel_rfl) (by kernel_rfl) noPanic_put rfl _ rfl w3.heap.size rfl c t (fun _ h => h.2) ht hS ?_
    simp only [Act.put, List.setIfInBounds_toArray, List.set_cons_zero, List.set_cons_succ]
    refine calls_two_one 2 4 5 44 46 6 _ _ _ 48 (numC false 0 zP 0 zP) 51 46 42 43 45 (.agg (numC g k p d u)) (.agg (numC g' k' p' f x)) (.agg (natC c t)) (SumR (topC g n m g' n' m')) (fun _ v => FracR (decide (topC g n m g' n' m' < 0)) (topC g n m g' n' m').natAbs (Nat.gcd m m') v) rfl rfl rfl rfl rfl rfl (fun _ => rfl) (fun _ => rfl) (fun _ => rfl) (fun _ _ => by go_simp) (fun _ _ => by go_simp) rfl rfl rfl rfl rfl rfl (by simp) (by intro d h; rcases h with rfl | rfl | rfl <;> decide) (by decide) (by decide) (by decide) (by decide) (by decide) (by decide) (by kernel_rfl) (by kernel_rfl) (by kernel_rfl) (by kernel_rfl) (by kernel_rfl) hz2 ?_ ?_ ?_ ?_
    · intro w' h
      have hlt := F8.lt
      exact ⟨⟨RowAt.below hS.1.1 h (show w.heap.size < w8.heap.size by omega), RowAt.below hS.1.2 h (show w.heap.size + 1 < w8.heap.size by omega)⟩, hS.2.below h (show w3.heap.size < w8.heap.size by omega)⟩
    · intro w' h
      refine (sumTop_any g g' w' HP.out.1 HR5.out HP'.out.1 HR7.out hk hd100 hk' hf100 H0.out.1 HD0.out).mono ?_
      rintro e w'' ⟨i, r, rfl, h2, h3⟩
      exact ⟨_, rfl, ⟨i, r, rfl, h2, by have := topZ_used HP.out.1 HR5.out HP'.out.1 HR7.out hk hd100 hk' hf100 h2; omega⟩, h3⟩
    · rintro v1 w' ⟨i, r, rfl, h1, h2⟩ h
      refine (fraction_any (decide (topC g n m g' n' m' < 0)) w' h1 HRC.out hc0 h2 (by omega)).mono ?_
      rintro e w'' ⟨i, l, r, s, rfl, h1, h2, h3⟩
      exact ⟨_, rfl, ⟨i, l, r, s, rfl, h1, h2⟩, h3⟩
    rintro v1 v2 px w9 hW9 - ⟨i, l, r, s, rfl, hRi, hRl⟩ hX hxb
    have hW9 : Below w8.heap.size w8 w9 := ⟨hW9.os, hW9.tape, hW9.output, hW9.size, hW9.block⟩
    have hxb : w8.heap.size ≤ px := hxb
    have hs9 := hW9.size
    have hxl := RowAt.lt hX
    have hfl := F8.lt
    have hr := hRi.len
    have hs := hRl.len
    have hl100 : l ≤ 100 := by have := hRl.cnt_le HRC.out (Nat.div_le_self _ _); omega
    have HR := hideT' (And.intro hRi hRl)
    have A9 : NumAt w9 w.heap.size g k p d u := RowAt.below A8 hW9 (by omega)
    have B9 : NumAt w9 (w.heap.size + 1) g' k' p' f x := RowAt.below B8 hW9 (by omega)
    have C9 : NumAt w9 (w.heap.size + 1 + 1) false 0 zP 0 zP := RowAt.below C8 hW9 (by omega)
    have F9 := F8.below hW9 (by omega)
    have hB9 : Below w.heap.size w w9 := hB8.trans (hW9.mono hB8.size)
    obtain ⟨G, hG⟩ : ∃ G, G = decide (topC g n m g' n' m' < 0) := ⟨_, rfl⟩
    rw [← hG]
    have HG := hideT' hG
    clear A8 B8 C8 F8 hB8 hS hRi hRl hW9 hG
    simp only [Act.put, List.setIfInBounds_toArray, List.set_cons_zero, List.set_cons_succ]
    refine held_store_num 6 (by kernel_rfl) rfl rfl _ _ rfl rfl px G i r l s rfl rfl false 0 zP 0 zP hX zP_len zP_len hr hs ?_
    intro wa Xa hga hsa
    have Aa : NumAt wa w.heap.size g k p d u := RowAt.grown A9 hga (by simp; omega)
    have Ba : NumAt wa (w.heap.size + 1) g' k' p' f x := RowAt.grown B9 hga (by simp; omega)
    have Ca : NumAt wa (w.heap.size + 1 + 1) false 0 zP 0 zP := RowAt.grown C9 hga (by simp; omega)
    have Fa := F9.grown hga (by simp; omega)
    have hBa : Below w.heap.size w wa := hB9.grown hga (by omega) (by intro k hk; cases hk; omega)
    clear A9 B9 C9 F9 hX hB9 hga
    refine ⟨⟨⟨Aa, Ba⟩, Fa⟩, ?_⟩
    clear Fa
    refine wpAnyH_done (by kernel_rfl) ?_ _
    refine NoPanic.normal ?_
    go_wp2_with fail
    refine held_begin (fun w' => (NumAt w' w.heap.size g k p d u ∧ NumAt w' (w.heap.size + 1) g' k' p' f x) ∧ NumAt w' px G i r l s) (by kernel_rfl) ?_
    have hS : (NumAt wa.drew w.heap.size g k p d u ∧ NumAt wa.drew (w.heap.size + 1) g' k' p' f x) ∧ NumAt wa.drew px G i r l s := ⟨⟨Aa, Ba⟩, Xa⟩
    refine held_valS 0 (some 47) rfl rfl (by kernel_rfl) (by kernel_rfl) (by kernel_rfl) noPanic_put rfl (.pointer (some ⟨px, 0, none⟩)) (fun _ _ => by go_simp) hS ?_
    simp only [Act.put, List.setIfInBounds_toArray, List.set_cons_zero, List.set_cons_succ]
    refine held_valS 1 (some 48) rfl rfl (by kernel_rfl) (by kernel_rfl) (by kernel_rfl) noPanic_put rfl (.agg (wholeC G i r)) (fun _ h => run_mid_whole _ rfl (px) 0 rfl G i r (h.2.whole) hr) hS ?_
    simp only [Act.put, List.setIfInBounds_toArray, List.set_cons_zero, List.set_cons_succ]
    refine held_valS 2 (some 49) rfl rfl (by kernel_rfl) (by kernel_rfl) (by kernel_rfl) noPanic_put rfl (.pointer (some ⟨px, 206, none⟩)) (fun _ _ => by go_simp) hS ?_
    simp only [Act.put, List.setIfInBounds_toArray, List.set_cons_zero, List.set_cons_succ]
    refine held_valS 3 (some 50) rfl rfl (by kernel_rfl) (by kernel_rfl) (by kernel_rfl) noPanic_put rfl (.agg (natC l s)) (fun _ h => run_mid_nat _ rfl (px) 206 rfl l s (h.2.bottom hr) hs) hS ?_
    simp only [Act.put, List.setIfInBounds_toArray, List.set_cons_zero, List.set_cons_succ]
    refine held_valS 4 (some 51) rfl rfl (by kernel_rfl) (by kernel_rfl) (by kernel_rfl) noPanic_put rfl (.pointer (some ⟨w.heap.size, 206, none⟩)) (fun _ _ => by go_simp) hS ?_
    simp only [Act.put, List.setIfInBounds_toArray, List.set_cons_zero, List.set_cons_succ]
    refine held_valS 5 (some 52) rfl rfl (by kernel_rfl) (by kernel_rfl) (by kernel_rfl) noPanic_put rfl (.agg (natC d u)) (fun _ h => run_mid_nat _ rfl (w.heap.size) 206 rfl d u (h.1.1.bottom hp) hu) hS ?_
    simp only [Act.put, List.setIfInBounds_toArray, List.set_cons_zero, List.set_cons_succ]
    refine held_valS 7 (some 54) rfl rfl (by kernel_rfl) (by kernel_rfl) (by kernel_rfl) noPanic_put rfl (.pointer (some ⟨w.heap.size + 1, 206, none⟩)) (fun _ _ => by go_simp) hS ?_
    simp only [Act.put, List.setIfInBounds_toArray, List.set_cons_zero, List.set_cons_succ]
    refine held_valS 8 (some 55) rfl rfl (by kernel_rfl) (by kernel_rfl) (by kernel_rfl) noPanic_put rfl (.agg (natC f x)) (fun _ h => run_mid_nat _ rfl (w.heap.size + 1) 206 rfl f x (h.1.2.bottom hp') hx) hS ?_
    simp only [Act.put, List.setIfInBounds_toArray, List.set_cons_zero, List.set_cons_succ]
    refine held_call 6 (some 53) (by kernel_rfl) rfl rfl rfl 48 #[.agg (natC l s), .agg (natC d u)] (by go_simp) _ (times_any wa.drew HR.out.2 HR5.out hl100 hd100) ?_
    rintro e wb ⟨y, y', rfl, hRb, hWb⟩
    have hWb : Below wa.heap.size wa wb := ⟨hWb.os, hWb.tape, hWb.output, hWb.size, hWb.block⟩
    have hsb := hWb.size
    have hyl := hRb.len
    have hy100 : y ≤ 100 := by
      have hle : Nat.gcd m m' / Nat.gcd (topC g n m g' n' m').natAbs (Nat.gcd m m') * (m / Nat.gcd m m') ≤ m := by
        have h2 := Nat.mul_le_mul_right (m / Nat.gcd m m') (Nat.div_le_self (Nat.gcd m m') (Nat.gcd (topC g n m g' n' m').natAbs (Nat.gcd m m')))
        have h3 := Nat.mul_div_cancel' (Nat.gcd_dvd_left m m')
        omega
      have := hRb.cnt_le HP.out.2 hle; omega
    have HRb := hideT' hRb
    have Sb : (NumAt wb w.heap.size g k p d u ∧ NumAt wb (w.heap.size + 1) g' k' p' f x) ∧ NumAt wb px G i r l s := ⟨⟨RowAt.below Aa hWb (by omega), RowAt.below Ba hWb (by omega)⟩, RowAt.below Xa hWb (by omega)⟩
    have Cb : NumAt wb (w.heap.size + 1 + 1) false 0 zP 0 zP := RowAt.below Ca hWb (by omega)
    have hBb : Below w.heap.size w wb := hBa.trans (hWb.mono hBa.size)
    clear Aa Ba Ca Xa hBa hS hRb hWb
    refine ⟨_, rfl, Sb, ?_⟩
    simp only [Act.put, List.setIfInBounds_toArray, List.set_cons_zero, List.set_cons_succ]
    refine held_call 9 (some 56) (by kernel_rfl) rfl rfl rfl 48 #[.agg (natC y y'), .agg (natC f x)] (by go_simp) _ (times_any wb HRb.out HR7.out hy100 hf100) ?_
    rintro e wc ⟨z, z', rfl, hRz, hWc⟩
    have hsc := hWc.size
    have hzl := hRz.len
    have HRz := hideT' hRz
    have Sc : (NumAt wc w.heap.size g k p d u ∧ NumAt wc (w.heap.size + 1) g' k' p' f x) ∧ NumAt wc px G i r l s := ⟨⟨RowAt.below Sb.1.1 hWc (by omega), RowAt.below Sb.1.2 hWc (by omega)⟩, RowAt.below Sb.2 hWc (by omega)⟩
    have Cc : NumAt wc (w.heap.size + 1 + 1) false 0 zP 0 zP := RowAt.below Cb hWc (by omega)
    have hBc : Below w.heap.size w wc := hBb.trans (hWc.mono hBb.size)
    clear Sb Cb hBb hRz hWc
    refine ⟨_, rfl, Sc, ?_⟩
    simp only [Act.put, List.setIfInBounds_toArray, List.set_cons_zero, List.set_cons_succ]
    refine held_val 10 (some 57) rfl rfl (by kernel_rfl) (by kernel_rfl) (by kernel_rfl) noPanic_put rfl (.agg (numC G i r z z')) (fun _ => run_bn _ _ rfl G i r z z' hr hzl rfl rfl) Sc ?_
    simp only [Act.put, List.setIfInBounds_toArray, List.set_cons_zero, List.set_cons_succ]
    refine held_store_num 11 (by kernel_rfl) rfl rfl _ _ rfl rfl (w.heap.size + 1 + 1) G i r z z' rfl rfl false 0 zP 0 zP Cc zP_len zP_len hr hzl ?_
    intro wd hNd hgd hsd
    refine ⟨⟨⟨RowAt.grown Sc.1.1 hgd (by simp; omega), RowAt.grown Sc.1.2 hgd (by simp)⟩, RowAt.grown Sc.2 hgd (by simp; omega)⟩, ?_⟩
    refine wpAnyH_done (by kernel_rfl) ?_ _
    refine NoPanic.normal ?_
    go_wp2
    refine bodyPost_ret (v := .agg (numC G i r z z')) (res_num Tryz.results22 _ _ (w.heap.size + 1 + 1) _ _ _ _ _ rfl hNd hr hzl) rfl ⟨⟨i, z, r, z', by rw [HG.out, HPL.out.1], ?_, ?_⟩, ?_⟩
    · rw [HPL.out.2.1]; exact HR.out.1
    · rw [HPL.out.2.2]; exact HRz.out
    · exact hBc.grown hgd (by have := hBc.size; omega) (by intro k hk; cases hk; omega)

end Go.Proofs.YtmfpnbmfcoahbaaGreatDoor
