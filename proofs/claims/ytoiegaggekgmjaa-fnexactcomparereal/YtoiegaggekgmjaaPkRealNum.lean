/-
  The texts RealNum, SumMath, one behind the other.
-/
import Derived.Test.YtoiegaggekgmjaaPkImplTwo2
import Derived.Test.YtoiegaggekgmjaaRealMem
import Derived.Test.YtoiegaggekgmjaaPkNumTimes
import Derived.Test.YtoiegaggekgmjaaFloat
import Derived.Test.YtoiegaggekgmjaaBaseLate
import Derived.Test.YtoiegaggekgmjaaPkReadNumA

/-
  What num of impl's reals answers: the number of a finite real.
-/
namespace Go.Proofs.Ytoiegaggekgmjaa
open Go.RowKit
set_option linter.unusedVariables false

/-- Top and bottom of a real. -/
def vN (n : Nat) (e : Int) : Nat := n * 2 ^ e.toNat
def vD (e : Int) : Nat := 2 ^ (-e).toNat
theorem vD_ne (e : Int) : vD e ≠ 0 := by have := Nat.two_pow_pos (-e).toNat; unfold vD; omega
theorem vD_lt {e : Int} (h : -150 ≤ e) : vD e ≤ 2 ^ 150 := Nat.pow_le_pow_right (by decide) (by omega)
theorem pow_sum {n i j : Nat} (h : n < 2 ^ i) : n * 2 ^ j < 2 ^ (i + j) := by rw [Nat.pow_add]; exact Nat.mul_lt_mul_of_pos_right h (Nat.two_pow_pos j)
theorem fin_lt {n : Nat} {e : Int} (h : FinR n e) : n < 2 ^ 53 := by
  have h53 : (2 : Nat) ^ 53 = 9007199254740992 := by decide
  unfold FinR at h
  omega
theorem vN_lt {n : Nat} {e : Int} (h : FinR n e) : vN n e < 2 ^ 203 := by
  have h1 : vN n e < 2 ^ (53 + e.toNat) := pow_sum (fin_lt h)
  exact Nat.lt_of_lt_of_le h1 (Nat.pow_le_pow_right (by decide) (by unfold FinR at h; omega))
/-- The number of a real: sign, top and bottom in lowest terms. -/
def RNumR (g : Bool) (n : Nat) (e : Int) (v : Value) : Prop := ∃ (i l : Nat) (r s : List Int), v = .agg (numC (g && decide (n ≠ 0)) i r l s) ∧ Rep (vN n e / Nat.gcd (vN n e) (vD e)) i r ∧ Rep (vD e / Nat.gcd (vN n e) (vD e)) l s
theorem used_pos {n k : Nat} {p : List Int} (h : Rep n k p) : decide (0 < k) = decide (n ≠ 0) := decide_eq_decide.2 (by have := h.zero_iff; omega)

theorem WholeAt.range0 {w : World} {b : Nat} {g : Bool} {u : Int} {p : List Int} (h : WholeAt w b g u p) : w.rangeAt b 0 (Value.bool g :: natL u p) := by
  have h' : RowAt w b 45 ([] ++ (Value.bool g :: natL u p) ++ []).toArray := by
    unfold WholeAt wholeC at h
    simpa using h
  exact h'.range

set_option maxHeartbeats 4000000 in
set_option maxRecDepth 100000 in
theorem rnum_any {n : Nat} (g : Bool) (m e : Int) (w : World) (hm : m = (n : Int)) (hf : FinR n e) :
    Calls Try.prog 42 #[.agg #[.bool g, .int .i64 m, .int .i64 e]] w fun e' w' => (∃ v, e' = .returned v ∧ RNumR g n e v) ∧ Below w.heap.size w w' := by
  have hz := zero_nat.1
  have hz1 := zero_whole.1
  have hz2 := zero_num.1
  have A := RowAt.old (RowAt.new w 25 #[.bool g, .int .i64 m, .int .i64 e]) (.cells (numC false 0 zP 0 zP) 47)
  have B := NumAt.new (w.alloc (.cells #[.bool g, .int .i64 m, .int .i64 e] 25)) false 0 zP 0 zP
  have hB : Below w.heap.size w ((w.alloc (.cells #[.bool g, .int .i64 m, .int .i64 e] 25)).alloc (.cells (numC false 0 zP 0 zP) 47)) := ((Below.refl _ _).alloc (Nat.le_refl _) _).alloc (by simp) _
  simp only [World.size_alloc] at B
  have hws : ((w.alloc (.cells #[.bool g, .int .i64 m, .int .i64 e] 25)).alloc (.cells (numC false 0 zP 0 zP) 47)).heap.size = w.heap.size + 1 + 1 := by simp
  have hm0 : 0 ≤ m := by omega
  have hm1 : m < 9007199254740992 := by unfold FinR at hf; omega
  have he0 : -150 ≤ e := by unfold FinR at hf; omega
  have he1 : e ≤ 150 := by unfold FinR at hf; omega
  have HM := hide hm
  have HF := hide hf
  clear hm hf
  go_enter Try.func42, Try.ntmps42
  generalize hw0 : (w.alloc (.cells #[.bool g, .int .i64 m, .int .i64 e] 25)).alloc (.cells (numC false 0 zP 0 zP) 47) = w0 at A B hB hws
  go_wp2_with fail
  clear hw0
  refine float_begin (fun w' => RowAt w' w.heap.size 25 #[.bool g, .int .i64 m, .int .i64 e]) 6 3 45 (wholeC false 0 zP) (w.heap.size + 1 + 1) 7 (by kernel_rfl) rfl ?_
  have hS : RowAt w0.drew w.heap.size 25 #[.bool g, .int .i64 m, .int .i64 e] := A
  refine float_val 0 4 rfl rfl (by kernel_rfl) (by kernel_rfl) (by kernel_rfl) (by kernel_rfl) (by kernel_rfl) noPanic_put (fun _ => rfl) (by decide) (by decide) (.pointer (some ⟨w.heap.size, 0, none⟩)) (fun _ _ => by go_simp) (fun _ => fun _ _ => by go_simp) (fun _ h => RowAt.below hS h (by show _ < w0.heap.size; omega)) ?_
  simp only [Act.put, List.setIfInBounds_toArray, List.set_cons_zero, List.set_cons_succ]
  refine float_val 1 5 rfl rfl (by kernel_rfl) (by kernel_rfl) (by kernel_rfl) (by kernel_rfl) (by kernel_rfl) noPanic_put (fun _ => rfl) (by decide) (by decide) (.bool g) (fun _ h => BL.run_cell1 _ 4 rfl ⟨w.heap.size, 0, none⟩ rfl (.bool g) Try.underlying4 rfl (by rw [cell_of_row _ _ _ _ _ _ h]; rfl)) (fun _ _ h => BL.run_cell1 _ 4 rfl ⟨w.heap.size, 0, none⟩ rfl (.bool g) Try.underlying4 rfl (by rw [cell_of_row _ _ _ _ _ _ h]; rfl)) (fun _ h => RowAt.below hS h (by show _ < w0.heap.size; omega)) ?_
  simp only [Act.put, List.setIfInBounds_toArray, List.set_cons_zero, List.set_cons_succ]
  refine float_val 2 6 rfl rfl (by kernel_rfl) (by kernel_rfl) (by kernel_rfl) (by kernel_rfl) (by kernel_rfl) noPanic_put (fun _ => rfl) (by decide) (by decide) (.pointer (some ⟨w.heap.size, 1, none⟩)) (fun _ _ => by go_simp) (fun _ => fun _ _ => by go_simp) (fun _ h => RowAt.below hS h (by show _ < w0.heap.size; omega)) ?_
  simp only [Act.put, List.setIfInBounds_toArray, List.set_cons_zero, List.set_cons_succ]
  refine float_val 3 7 rfl rfl (by kernel_rfl) (by kernel_rfl) (by kernel_rfl) (by kernel_rfl) (by kernel_rfl) noPanic_put (fun _ => rfl) (by decide) (by decide) (.int .i64 m) (fun _ h => BL.run_cell1 _ 3 rfl ⟨w.heap.size, 1, none⟩ rfl (.int .i64 m) Try.underlying3 rfl (by rw [cell_of_row _ _ _ _ _ _ h]; rfl)) (fun _ _ h => BL.run_cell1 _ 3 rfl ⟨w.heap.size, 1, none⟩ rfl (.int .i64 m) Try.underlying3 rfl (by rw [cell_of_row _ _ _ _ _ _ h]; rfl)) (fun _ h => RowAt.below hS h (by show _ < w0.heap.size; omega)) ?_
  simp only [Act.put, List.setIfInBounds_toArray, List.set_cons_zero, List.set_cons_succ]
  refine float_call 4 8 rfl rfl rfl rfl rfl (fun _ => rfl) (fun _ => rfl) (by kernel_rfl) (by kernel_rfl) (by decide) (by decide) hz1 (by show _ ≤ w0.heap.size; omega) 70 #[.int .i64 m] (fun _ => by go_simp) (fun _ _ => by go_simp) (fun _ h => RowAt.below hS h (by show _ < w0.heap.size; omega)) _ (fun w' _ => natOf_big n m w' HM.out hm0 (by omega)) ?_
  rintro wx e1 w1 hWx ⟨i1, r1, rfl, hR1, hW1'⟩
  have hW1 : Below w0.heap.size w0 w1 := (⟨hWx.os, hWx.tape, hWx.output, hWx.size, hWx.block⟩ : Below w0.heap.size w0 wx).trans (hW1'.mono hWx.size)
  have hs1 := hW1.size
  have A1 := RowAt.below A hW1 (by omega)
  have l1 := hR1.len
  have HR1 := hide hR1
  refine ⟨_, rfl, hW1', ?_⟩
  simp only [Act.put, List.setIfInBounds_toArray, List.set_cons_zero, List.set_cons_succ]
  refine float_call 5 9 rfl rfl rfl rfl rfl (fun _ => rfl) (fun _ => rfl) (by kernel_rfl) (by kernel_rfl) (by decide) (by decide) hz1 (by omega) 69 #[.bool g, .agg (natC i1 r1)] (fun _ => by go_simp) (fun _ _ => by go_simp) (fun _ h => RowAt.below A1 h (by omega)) _ (fun w' _ => wholeOf_any g i1 r1 w' l1) ?_
  rintro wy e2 w2 hWy ⟨rfl, hW2'⟩
  have hW2 : Below w0.heap.size w0 w2 := hW1.trans ((hWy.trans (hW2'.mono hWy.size)).mono hs1)
  have hs2 := hW2.size
  refine ⟨_, rfl, hW2', ?_⟩
  simp only [Act.put, List.setIfInBounds_toArray, List.set_cons_zero, List.set_cons_succ]
  refine float_end rfl rfl rfl (fun _ => rfl) (by kernel_rfl) hz1 (by omega) (fun _ h => RowAt.below (RowAt.below A hW2 (by omega)) h (by omega)) ?_
  intro w3 b3 hW3 hRp hb3
  simp only [Act.put, List.setIfInBounds_toArray, List.set_cons_zero, List.set_cons_succ]
  have hV3 : Below w0.heap.size w0 w3 := hW2.trans (hW3.mono hs2)
  refine held_store_whole 7 (by kernel_rfl) rfl rfl _ _ rfl rfl b3 (g && decide (0 < i1)) i1 r1 rfl rfl false 0 zP hRp zP_len l1 ?_
  intro w4 hN4 hg4 hs4
  have hb3l := RowAt.lt hRp
  have A4 := RowAt.grown (RowAt.below A hV3 (by omega)) hg4 (by simp; omega)
  have B4 : NumAt w4 (w.heap.size + 1) false 0 zP 0 zP := RowAt.grown (RowAt.below B hV3 (by omega)) hg4 (by simp; omega)
  have hB4 : Below w.heap.size w w4 := (hB.trans (hV3.mono (by omega))).grown hg4 (by have := hV3.size; omega) (by intro k hk; cases hk; omega)
  refine ⟨A4, ?_⟩
  refine wpAnyH_done (by kernel_rfl) ?_ _
  refine NoPanic.normal ?_
  have hs4' : w.heap.size + 1 + 1 ≤ w4.heap.size := by have := hV3.size; omega
  have hb4 : b3 < w4.heap.size := by omega
  have c2 : w4.cell? ⟨w.heap.size, 2, none⟩ = some (.int .i64 e) := by rw [cell_of_row _ _ _ _ _ _ A4]; rfl
  obtain ⟨G, hG⟩ : ∃ G, G = (g && decide (0 < i1)) := ⟨_, rfl⟩
  rw [← hG] at hN4
  have HG : Hid (G = (g && decide (n ≠ 0))) := by unfold Hid; rw [hG, used_pos HR1.out]
  clear hS hW1 hW1' hWx hW2 hW2' hWy hW3 hV3 hRp hg4 hs4 A B hB A1 hR1 hws hs1 hs2 hG hb3l
  have hi1 : i1 ≤ 100 := HR1.out.fits.2 (Nat.lt_trans (fin_lt HF.out) (two_lt 53 (by omega)))
  by_cases hneg : e < 0
  · obtain ⟨J, hJ⟩ : ∃ J : Nat, -e = (J : Int) := ⟨(-e).toNat, by omega⟩
    have hwJ : IntKind.i64.wrap (J : Int) = (J : Int) := by rw [IntKind.wrap_i64]; omega
    have HJ : Hid (vN n e = n ∧ vD e = 2 ^ J) := ⟨by unfold vN; rw [show e.toNat = 0 by omega, Nat.pow_zero, Nat.mul_one], by unfold vD; rw [hJ]; rfl⟩
    go_wp2_with fail
    refine held_begin (fun w' => WholeAt w' b3 G i1 r1 ∧ RowAt w' w.heap.size 25 #[.bool g, .int .i64 m, .int .i64 e]) (by kernel_rfl) ?_
    have hS : WholeAt w4.drew b3 G i1 r1 ∧ RowAt w4.drew w.heap.size 25 #[.bool g, .int .i64 m, .int .i64 e] := ⟨hN4, A4⟩
    refine held_valS 0 (some 13) rfl rfl (by kernel_rfl) (by kernel_rfl) (by kernel_rfl) noPanic_put rfl (.agg (wholeC G i1 r1)) (fun _ h => run_mid_whole _ rfl b3 0 rfl G i1 r1 (WholeAt.range0 h.1) l1) hS ?_
    simp only [Act.put, List.setIfInBounds_toArray, List.set_cons_zero, List.set_cons_succ]
    refine held_val 1 (some 14) rfl rfl (by kernel_rfl) (by kernel_rfl) (by kernel_rfl) noPanic_put rfl (.pointer (some ⟨w.heap.size, 2, none⟩)) (fun _ => by go_simp) hS ?_
    simp only [Act.put, List.setIfInBounds_toArray, List.set_cons_zero, List.set_cons_succ]
    refine held_valS 2 (some 15) rfl rfl (by kernel_rfl) (by kernel_rfl) (by kernel_rfl) noPanic_put rfl (.int .i64 e) (fun _ h => BL.run_cell1 _ 3 rfl ⟨w.heap.size, 2, none⟩ rfl (.int .i64 e) Try.underlying3 rfl (by rw [cell_of_row _ _ _ _ _ _ h.2]; rfl)) hS ?_
    simp only [Act.put, List.setIfInBounds_toArray, List.set_cons_zero, List.set_cons_succ]
    refine held_val 3 (some 16) rfl rfl (by kernel_rfl) (by kernel_rfl) (by kernel_rfl) noPanic_put rfl (.int .i64 (-e)) (fun _ => by go_simp) hS ?_
    simp only [Act.put, List.setIfInBounds_toArray, List.set_cons_zero, List.set_cons_succ]
    refine held_call 4 (some 17) (by kernel_rfl) rfl rfl rfl 72 #[.int .i64 (-e)] (by go_simp) _ (twoTo_any J (-e) w4.drew hJ (by omega)) ?_
    rintro e6 w6 ⟨i6, r6, rfl, hR6, hW6⟩
    have hs6 : w4.heap.size ≤ w6.heap.size := hW6.size
    have hS6 : WholeAt w6 b3 G i1 r1 ∧ RowAt w6 w.heap.size 25 #[.bool g, .int .i64 m, .int .i64 e] := ⟨RowAt.below hS.1 hW6 (by show _ < w4.heap.size; omega), RowAt.below hS.2 hW6 (by show _ < w4.heap.size; omega)⟩
    have hi6 : i6 ≤ 100 := hR6.fits.2 (two_lt J (by omega))
    have hj6 : 0 < i6 := Nat.pos_of_ne_zero (fun h => by have := hR6.zero_iff.1 h; have := Nat.two_pow_pos J; omega)
    refine ⟨_, rfl, hS6, ?_⟩
    simp only [Act.put, List.setIfInBounds_toArray, List.set_cons_zero, List.set_cons_succ]
    refine held_call 5 (some 18) (by kernel_rfl) rfl rfl rfl 71 #[.agg (wholeC G i1 r1), .agg (natC i6 r6)] (by go_simp) _ (fraction_any G w6 HR1.out hR6 hj6 (by omega) (by omega)) ?_
    rintro e7 w7 ⟨ia, ib, ra, rb, rfl, hRa, hRb, hW7⟩
    have hs7 : w6.heap.size ≤ w7.heap.size := hW7.size
    have hS7 : WholeAt w7 b3 G i1 r1 ∧ RowAt w7 w.heap.size 25 #[.bool g, .int .i64 m, .int .i64 e] := ⟨RowAt.below hS6.1 hW7 (by omega), RowAt.below hS6.2 hW7 (by omega)⟩
    have la := hRa.len
    have lb := hRb.len
    have HQ : Hid (Rep (vN n e / Nat.gcd (vN n e) (vD e)) ia ra ∧ Rep (vD e / Nat.gcd (vN n e) (vD e)) ib rb) := by unfold Hid; rw [HJ.out.1, HJ.out.2]; exact ⟨hRa, hRb⟩
    have hB7 : Below w.heap.size w w7 := (hB4.drew.trans (hW6.mono (by show _ ≤ w4.heap.size; omega))).trans (hW7.mono (by omega))
    have B7 : NumAt w7 (w.heap.size + 1) false 0 zP 0 zP := RowAt.below (RowAt.below (w := w4.drew) B4 hW6 (by show _ < w4.heap.size; omega)) hW7 (by omega)
    refine ⟨_, rfl, hS7, ?_⟩
    simp only [Act.put, List.setIfInBounds_toArray, List.set_cons_zero, List.set_cons_succ]
    refine held_store_num 6 (by kernel_rfl) rfl rfl _ _ rfl rfl (w.heap.size + 1) G ia ra ib rb rfl rfl false 0 zP 0 zP B7 zP_len zP_len la lb ?_
    intro w9 hN9 hg9 hs9
    refine ⟨⟨RowAt.grown hS7.1 hg9 (by first | (simp; done) | (simp; omega)), RowAt.grown hS7.2 hg9 (by first | (simp; done) | (simp; omega))⟩, ?_⟩
    refine wpAnyH_done (by kernel_rfl) ?_ _
    refine NoPanic.normal ?_
    go_wp2
    refine bodyPost_ret (res_num Try.results42 _ _ (w.heap.size + 1) _ _ _ _ _ rfl hN9 la lb) rfl ⟨⟨_, rfl, _, _, _, _, by rw [HG.out], HQ.out.1, HQ.out.2⟩, hB7.grown hg9 hB7.size (by intro k hk; cases hk; omega)⟩
  · obtain ⟨J, hJ⟩ : ∃ J : Nat, e = (J : Int) := ⟨e.toNat, by omega⟩
    have HJ : Hid (vN n e = n * 2 ^ J ∧ vD e = 1) := ⟨by unfold vN; rw [hJ]; rfl, by unfold vD; rw [show (-e).toNat = 0 by omega]⟩
    go_wp2_with fail
    refine held_begin (fun w' => WholeAt w' b3 G i1 r1 ∧ RowAt w' w.heap.size 25 #[.bool g, .int .i64 m, .int .i64 e]) (by kernel_rfl) ?_
    have hS : WholeAt w4.drew b3 G i1 r1 ∧ RowAt w4.drew w.heap.size 25 #[.bool g, .int .i64 m, .int .i64 e] := ⟨hN4, A4⟩
    refine held_valS 0 (some 19) rfl rfl (by kernel_rfl) (by kernel_rfl) (by kernel_rfl) noPanic_put rfl (.agg (wholeC G i1 r1)) (fun _ h => run_mid_whole _ rfl b3 0 rfl G i1 r1 (WholeAt.range0 h.1) l1) hS ?_
    simp only [Act.put, List.setIfInBounds_toArray, List.set_cons_zero, List.set_cons_succ]
    refine held_val 1 (some 20) rfl rfl (by kernel_rfl) (by kernel_rfl) (by kernel_rfl) noPanic_put rfl (.pointer (some ⟨w.heap.size, 2, none⟩)) (fun _ => by go_simp) hS ?_
    simp only [Act.put, List.setIfInBounds_toArray, List.set_cons_zero, List.set_cons_succ]
    refine held_valS 2 (some 21) rfl rfl (by kernel_rfl) (by kernel_rfl) (by kernel_rfl) noPanic_put rfl (.int .i64 e) (fun _ h => BL.run_cell1 _ 3 rfl ⟨w.heap.size, 2, none⟩ rfl (.int .i64 e) Try.underlying3 rfl (by rw [cell_of_row _ _ _ _ _ _ h.2]; rfl)) hS ?_
    simp only [Act.put, List.setIfInBounds_toArray, List.set_cons_zero, List.set_cons_succ]
    refine held_call 3 (some 22) (by kernel_rfl) rfl rfl rfl 72 #[.int .i64 e] (by go_simp) _ (twoTo_any J e w4.drew hJ (by omega)) ?_
    rintro e5 w5 ⟨i5, r5, rfl, hR5, hW5⟩
    have hs5 : w4.heap.size ≤ w5.heap.size := hW5.size
    have hS5 : WholeAt w5 b3 G i1 r1 ∧ RowAt w5 w.heap.size 25 #[.bool g, .int .i64 m, .int .i64 e] := ⟨RowAt.below hS.1 hW5 (by show _ < w4.heap.size; omega), RowAt.below hS.2 hW5 (by show _ < w4.heap.size; omega)⟩
    have hi5 : i5 ≤ 100 := hR5.fits.2 (two_lt J (by omega))
    refine ⟨_, rfl, hS5, ?_⟩
    simp only [Act.put, List.setIfInBounds_toArray, List.set_cons_zero, List.set_cons_succ]
    refine held_call 4 (some 23) (by kernel_rfl) rfl rfl rfl 73 #[.agg (wholeC G i1 r1), .agg (natC i5 r5)] (by go_simp) _ (scaled_any G w5 HR1.out hR5 hi1 hi5) ?_
    rintro e6 w6 ⟨ia, ra, rfl, hRa, hW6⟩
    have hs6 : w5.heap.size ≤ w6.heap.size := hW6.size
    have hS6 : WholeAt w6 b3 G i1 r1 ∧ RowAt w6 w.heap.size 25 #[.bool g, .int .i64 m, .int .i64 e] := ⟨RowAt.below hS5.1 hW6 (by omega), RowAt.below hS5.2 hW6 (by omega)⟩
    have la := hRa.len
    refine ⟨_, rfl, hS6, ?_⟩
    simp only [Act.put, List.setIfInBounds_toArray, List.set_cons_zero, List.set_cons_succ]
    refine held_call 5 (some 24) (by kernel_rfl) rfl rfl rfl 70 #[.int .i64 1] (by go_simp) _ (natOf_any 1 1 w6 rfl (by omega) (by omega)) ?_
    rintro e7 w7 ⟨ib, rb, rfl, hRb, hW7⟩
    have hs7 : w6.heap.size ≤ w7.heap.size := hW7.size
    have hS7 : WholeAt w7 b3 G i1 r1 ∧ RowAt w7 w.heap.size 25 #[.bool g, .int .i64 m, .int .i64 e] := ⟨RowAt.below hS6.1 hW7 (by omega), RowAt.below hS6.2 hW7 (by omega)⟩
    have lb := hRb.len
    have HQ : Hid (Rep (vN n e / Nat.gcd (vN n e) (vD e)) ia ra ∧ Rep (vD e / Nat.gcd (vN n e) (vD e)) ib rb) := by unfold Hid; rw [HJ.out.1, HJ.out.2, Nat.gcd_one_right, Nat.div_one, Nat.div_one]; exact ⟨hRa, hRb⟩
    have hB7 : Below w.heap.size w w7 := ((hB4.drew.trans (hW5.mono (by show _ ≤ w4.heap.size; omega))).trans (hW6.mono (by omega))).trans (hW7.mono (by omega))
    have B7 : NumAt w7 (w.heap.size + 1) false 0 zP 0 zP := RowAt.below (RowAt.below (RowAt.below (w := w4.drew) B4 hW5 (by show _ < w4.heap.size; omega)) hW6 (by omega)) hW7 (by omega)
    refine ⟨_, rfl, hS7, ?_⟩
    simp only [Act.put, List.setIfInBounds_toArray, List.set_cons_zero, List.set_cons_succ]
    refine held_val 6 (some 25) rfl rfl (by kernel_rfl) (by kernel_rfl) (by kernel_rfl) noPanic_put rfl (.agg (numC G ia ra ib rb)) (fun _ => run_bn _ _ rfl G ia ra ib rb la lb rfl rfl) hS7 ?_
    simp only [Act.put, List.setIfInBounds_toArray, List.set_cons_zero, List.set_cons_succ]
    refine held_store_num 7 (by kernel_rfl) rfl rfl _ _ rfl rfl (w.heap.size + 1) G ia ra ib rb rfl rfl false 0 zP 0 zP B7 zP_len zP_len la lb ?_
    intro w9 hN9 hg9 hs9
    refine ⟨⟨RowAt.grown hS7.1 hg9 (by first | (simp; done) | (simp; omega)), RowAt.grown hS7.2 hg9 (by first | (simp; done) | (simp; omega))⟩, ?_⟩
    refine wpAnyH_done (by kernel_rfl) ?_ _
    refine NoPanic.normal ?_
    go_wp2
    refine bodyPost_ret (res_num Try.results42 _ _ (w.heap.size + 1) _ _ _ _ _ rfl hN9 la lb) rfl ⟨⟨_, rfl, _, _, _, _, by rw [HG.out], HQ.out.1, HQ.out.2⟩, hB7.grown hg9 hB7.size (by intro k hk; cases hk; omega)⟩
end Go.Proofs.Ytoiegaggekgmjaa

/-
  Sums, products and quotients of reals as quotients: plain facts.
-/
namespace Go.Proofs.Ytoiegaggekgmjaa
open Go.RowKit
set_option linter.unusedVariables false

theorem Near.move {N D N' D' R : Nat} (h : Near N D R) (hD : 0 < D) (hD' : 0 < D') (he : N * D' = N' * D) : Near N' D' R := by
  have h1 := h.scale hD'
  rw [show D' * N = D * N' by rw [Nat.mul_comm, he, Nat.mul_comm], Nat.mul_comm D' D] at h1
  exact h1.unscale hD
theorem low_cross {x y : Nat} : x / Nat.gcd x y * y = x * (y / Nat.gcd x y) := by
  rcases Nat.eq_zero_or_pos (Nat.gcd x y) with h | h
  · have h1 := Nat.eq_zero_of_gcd_eq_zero_left h
    have h2 := Nat.eq_zero_of_gcd_eq_zero_right h
    rw [h1, h2]; simp
  · obtain ⟨a, ha⟩ := Nat.gcd_dvd_left x y
    obtain ⟨b, hb⟩ := Nat.gcd_dvd_right x y
    have e1 : x / Nat.gcd x y = a := by
      conv => lhs; lhs; rw [ha]
      exact Nat.mul_div_cancel_left a h
    have e2 : y / Nat.gcd x y = b := by
      conv => lhs; lhs; rw [hb]
      exact Nat.mul_div_cancel_left b h
    rw [e1, e2]
    generalize Nat.gcd x y = c at *
    subst ha
    subst hb
    grind
theorem low_pos {x y : Nat} (hy : y ≠ 0) : 0 < y / Nat.gcd x y := Nat.div_pos (Nat.le_of_dvd (Nat.pos_of_ne_zero hy) (Nat.gcd_dvd_right x y)) (Nat.gcd_pos_of_pos_right x (Nat.pos_of_ne_zero hy))
theorem low_ne {x y : Nat} (hx : x ≠ 0) : x / Nat.gcd x y ≠ 0 := by
  have := Nat.div_pos (Nat.le_of_dvd (Nat.pos_of_ne_zero hx) (Nat.gcd_dvd_left x y)) (Nat.gcd_pos_of_pos_left y (Nat.pos_of_ne_zero hx))
  omega
theorem low_gcd {x y : Nat} (hy : y ≠ 0) : Nat.gcd (x / Nat.gcd x y) (y / Nat.gcd x y) = 1 := by
  rw [Nat.gcd_div (Nat.gcd_dvd_left x y) (Nat.gcd_dvd_right x y), Nat.div_self (Nat.gcd_pos_of_pos_right x (Nat.pos_of_ne_zero hy))]
/-- Out of lowest terms. -/
theorem Near.low {x y R : Nat} (h : Near (x / Nat.gcd x y) (y / Nat.gcd x y) R) (hy : y ≠ 0) : Near x y R :=
  h.move (low_pos hy) (Nat.pos_of_ne_zero hy) low_cross
theorem mul_cross {P Q N D P' Q' N' D' : Nat} (h : P * D = N * Q) (h' : P' * D' = N' * Q') : (P * P') * (D * D') = (N * N') * (Q * Q') := by grind
theorem div_cross {P Q N D P' Q' N' D' : Nat} (h : P * D = N * Q) (h' : P' * D' = N' * Q') : (P * Q') * (D * N') = (N * D') * (Q * P') := by grind
/-- The top of a sum. -/
def sumZ (g : Bool) (N D : Nat) (g' : Bool) (N' D' : Nat) : Int := sg g N * (D' : Int) + sg g' N' * (D : Int)
theorem sum_cross {P Q N D P' Q' N' D' : Nat} (g g' : Bool) (h : P * D = N * Q) (h' : P' * D' = N' * Q') : sumZ g P Q g' P' Q' * ((D * D' : Nat) : Int) = sumZ g N D g' N' D' * ((Q * Q' : Nat) : Int) := by
  have e : (P : Int) * (D : Int) = (N : Int) * (Q : Int) := by exact_mod_cast h
  have e' : (P' : Int) * (D' : Int) = (N' : Int) * (Q' : Int) := by exact_mod_cast h'
  unfold sumZ sg
  rw [Int.natCast_mul, Int.natCast_mul]
  cases g <;> cases g' <;> simp <;> grind
theorem sum_abs {P Q N D P' Q' N' D' : Nat} (g g' : Bool) (h : P * D = N * Q) (h' : P' * D' = N' * Q') : (sumZ g P Q g' P' Q').natAbs * (D * D') = (sumZ g N D g' N' D').natAbs * (Q * Q') := by
  have := congrArg Int.natAbs (sum_cross g g' h h')
  rwa [Int.natAbs_mul, Int.natAbs_mul, Int.natAbs_natCast, Int.natAbs_natCast] at this
/-- The sign of a sum. -/
theorem sum_sign {P Q N D P' Q' N' D' : Nat} (g g' : Bool) (h : P * D = N * Q) (h' : P' * D' = N' * Q') (hD : D ≠ 0) (hD' : D' ≠ 0) (hQ : Q ≠ 0) (hQ' : Q' ≠ 0) : (sumZ g P Q g' P' Q' < 0 ↔ sumZ g N D g' N' D' < 0) ∧ (sumZ g P Q g' P' Q' = 0 ↔ sumZ g N D g' N' D' = 0) := by
  have e := sum_cross g g' h h'
  have p1 : (0 : Int) < ((D * D' : Nat) : Int) := by have := Nat.mul_pos (Nat.pos_of_ne_zero hD) (Nat.pos_of_ne_zero hD'); omega
  have p2 : (0 : Int) < ((Q * Q' : Nat) : Int) := by have := Nat.mul_pos (Nat.pos_of_ne_zero hQ) (Nat.pos_of_ne_zero hQ'); omega
  generalize sumZ g P Q g' P' Q' = x at *
  generalize sumZ g N D g' N' D' = y at *
  generalize ((D * D' : Nat) : Int) = a at *
  generalize ((Q * Q' : Nat) : Int) = b at *
  constructor
  · constructor
    · intro hx
      rcases Int.lt_or_le y 0 with h1 | h1
      · exact h1
      · have := Int.mul_neg_of_neg_of_pos hx p1
        have := Int.mul_nonneg h1 (Int.le_of_lt p2)
        omega
    · intro hx
      rcases Int.lt_or_le x 0 with h1 | h1
      · exact h1
      · have := Int.mul_neg_of_neg_of_pos hx p2
        have := Int.mul_nonneg h1 (Int.le_of_lt p1)
        omega
  · constructor
    · intro hx
      rw [hx, Int.zero_mul] at e
      rcases Int.mul_eq_zero.1 e.symm with h1 | h1 <;> omega
    · intro hx
      rw [hx, Int.zero_mul] at e
      rcases Int.mul_eq_zero.1 e with h1 | h1 <;> omega
theorem sg_drop (g : Bool) {n N : Nat} (h : n = 0 → N = 0) : sg (g && decide (n ≠ 0)) N = sg g N := by
  by_cases hn : n = 0
  · rw [h hn]; unfold sg; simp
  · rw [decide_eq_true hn, Bool.and_true]
theorem sum_drop (g g' : Bool) {n n' N D N' D' : Nat} (h : n = 0 → N = 0) (h' : n' = 0 → N' = 0) : sumZ (g && decide (n ≠ 0)) N D (g' && decide (n' ≠ 0)) N' D' = sumZ g N D g' N' D' := by
  unfold sumZ; rw [sg_drop g h, sg_drop g' h']
/-- What the four answer. -/
def AnsS (fin neg : Bool) (N D : Nat) (e : Ending) : Prop :=
  (fin = false ∧ e = .returned (.tuple #[.agg #[.bool false, .int .i64 0, .int .i64 0], .bool false])) ∨
  (fin = true ∧ ∃ R : Nat, Near N D R ∧ e = .returned (.tuple #[.agg #[.bool neg, .int .i64 (manOf R : Nat), .int .i64 (expOf R)], .bool true]))
theorem AnsS.same {fin neg : Bool} {N D : Nat} {e e' : Ending} (h : AnsS fin neg N D e) (h' : AnsS fin neg N D e') : ∃ (a : Bool) (b c : Int) (d : Bool), e = .returned (.tuple #[.agg #[.bool a, .int .i64 b, .int .i64 c], .bool d]) ∧ e' = e := by
  rcases h with ⟨h1, rfl⟩ | ⟨h1, R, hR, rfl⟩
  · rcases h' with ⟨h2, rfl⟩ | ⟨h2, _⟩
    · exact ⟨_, _, _, _, rfl, rfl⟩
    · rw [h1] at h2; cases h2
  · rcases h' with ⟨h2, _⟩ | ⟨h2, R', hR', rfl⟩
    · rw [h1] at h2; cases h2
    · rw [hR.one hR']
      exact ⟨_, _, _, _, rfl, rfl⟩
theorem vN_zero {n : Nat} {e : Int} : vN n e = 0 ↔ n = 0 := by
  unfold vN
  rw [Nat.mul_eq_zero]
  have := Nat.two_pow_pos e.toNat
  omega
end Go.Proofs.Ytoiegaggekgmjaa
