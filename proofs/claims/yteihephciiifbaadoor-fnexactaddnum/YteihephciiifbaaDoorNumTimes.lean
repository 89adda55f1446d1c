/-
  What times and turned of a fraction of impl answer.
-/
import Derived.Test.YteihephciiifbaaDoorReadNums
import Derived.Test.YteihephciiifbaaDoorNumText
import Derived.Test.YteihephciiifbaaDoorTimes
import Derived.Test.YteihephciiifbaaDoorMulMath
namespace Go.Proofs.YteihephciiifbaaDoor
open Go.RowKit
set_option linter.unusedVariables false

set_option maxHeartbeats 1000000 in
set_option maxRecDepth 100000 in
theorem numTimes_any {n m k j n' m' k' j' : Nat} {p q p' q' : List Int} (g g' : Bool) (w : World) (hP : Rep n k p) (hQ : Rep m j q) (hP' : Rep n' k' p') (hQ' : Rep m' j' q') (hk : k ≤ 100) (hj : j ≤ 100) (hk' : k' ≤ 100) (hj' : j' ≤ 100) (h0 : j ≠ 0) (h0' : j' ≠ 0) :
    Calls Tryd.prog 41 #[.agg (numC g k p j q), .agg (numC g' k' p' j' q')] w fun e w' => ∃ (i l : Nat) (r s : List Int), e = .returned (.agg (numC ((g != g') && decide (n * n' ≠ 0)) i r l s)) ∧ Rep (n * n' / Nat.gcd (n * n') (m * m')) i r ∧ Rep (m * m' / Nat.gcd (n * n') (m * m')) l s ∧ Below w.heap.size w w' := by
  have hz := zero_nat.1
  have hz1 := zero_whole.1
  have hz2 := zero_num.1
  have hp := hP.len
  have hq := hQ.len
  have hp' := hP'.len
  have hq' := hQ'.len
  have A : NumAt (((w.alloc (.cells (numC g k p j q) 42)).alloc (.cells (numC g' k' p' j' q') 42)).alloc (.cells (numC false 0 zP 0 zP) 42)) w.heap.size g k p j q := RowAt.old (RowAt.old (NumAt.new w g k p j q) _) _
  have B : NumAt (((w.alloc (.cells (numC g k p j q) 42)).alloc (.cells (numC g' k' p' j' q') 42)).alloc (.cells (numC false 0 zP 0 zP) 42)) (w.heap.size + 1) g' k' p' j' q' := by
    have := RowAt.old (NumAt.new (w.alloc (.cells (numC g k p j q) 42)) g' k' p' j' q') (.cells (numC false 0 zP 0 zP) 42)
    simp only [World.size_alloc] at this; exact this
  have C : NumAt (((w.alloc (.cells (numC g k p j q) 42)).alloc (.cells (numC g' k' p' j' q') 42)).alloc (.cells (numC false 0 zP 0 zP) 42)) (w.heap.size + 1 + 1) false 0 zP 0 zP := by
    have := NumAt.new ((w.alloc (.cells (numC g k p j q) 42)).alloc (.cells (numC g' k' p' j' q') 42)) false 0 zP 0 zP
    simp only [World.size_alloc] at this; exact this
  have hB : Below w.heap.size w (((w.alloc (.cells (numC g k p j q) 42)).alloc (.cells (numC g' k' p' j' q') 42)).alloc (.cells (numC false 0 zP 0 zP) 42)) := (((Below.refl _ _).alloc (Nat.le_refl _) _).alloc (by simp) _).alloc (by simp; omega) _
  obtain ⟨W, hWd⟩ : ∃ W, W = ((w.alloc (.cells (numC g k p j q) 42)).alloc (.cells (numC g' k' p' j' q') 42)).alloc (.cells (numC false 0 zP 0 zP) 42) := ⟨_, rfl⟩
  have hWs : W.heap.size = w.heap.size + 1 + 1 + 1 := by rw [hWd]; simp
  have HP := hide (And.intro hP hQ)
  have HP' := hide (And.intro hP' hQ')
  clear hP hQ hP' hQ'
  go_enter Tryd.func41, Tryd.ntmps41
  go_wp2_with fail
  rw [← hWd] at A B C hB ⊢
  clear hWd
  refine held_begin (fun w' => NumAt w' w.heap.size g k p j q ∧ NumAt w' (w.heap.size + 1) g' k' p' j' q') (by kernel_rfl) ?_
  have hS : NumAt W.drew w.heap.size g k p j q ∧ NumAt W.drew (w.heap.size + 1) g' k' p' j' q' := ⟨A, B⟩
  refine held_valS 0 (some 5) rfl rfl (by kernel_rfl) (by kernel_rfl) (by kernel_rfl) noPanic_put rfl (.pointer (some ⟨w.heap.size, 0, none⟩)) (fun _ _ => by go_simp) hS ?_
  simp only [Act.put, List.setIfInBounds_toArray, List.set_cons_zero, List.set_cons_succ]
  refine held_valS 1 (some 6) rfl rfl (by kernel_rfl) (by kernel_rfl) (by kernel_rfl) noPanic_put rfl (.pointer (some ⟨w.heap.size, 0, none⟩)) (fun _ _ => by go_simp) hS ?_
  simp only [Act.put, List.setIfInBounds_toArray, List.set_cons_zero, List.set_cons_succ]
  refine held_valS 2 (some 7) rfl rfl (by kernel_rfl) (by kernel_rfl) (by kernel_rfl) noPanic_put rfl (.bool g) (fun _ h => by have c := h.1.neg; go_simp) hS ?_
  simp only [Act.put, List.setIfInBounds_toArray, List.set_cons_zero, List.set_cons_succ]
  refine held_valS 3 (some 8) rfl rfl (by kernel_rfl) (by kernel_rfl) (by kernel_rfl) noPanic_put rfl (.pointer (some ⟨w.heap.size + 1, 0, none⟩)) (fun _ _ => by go_simp) hS ?_
  simp only [Act.put, List.setIfInBounds_toArray, List.set_cons_zero, List.set_cons_succ]
  refine held_valS 4 (some 9) rfl rfl (by kernel_rfl) (by kernel_rfl) (by kernel_rfl) noPanic_put rfl (.pointer (some ⟨w.heap.size + 1, 0, none⟩)) (fun _ _ => by go_simp) hS ?_
  simp only [Act.put, List.setIfInBounds_toArray, List.set_cons_zero, List.set_cons_succ]
  refine held_valS 5 (some 10) rfl rfl (by kernel_rfl) (by kernel_rfl) (by kernel_rfl) noPanic_put rfl (.bool g') (fun _ h => by have c := h.2.neg; go_simp) hS ?_
  simp only [Act.put, List.setIfInBounds_toArray, List.set_cons_zero, List.set_cons_succ]
  refine held_valS 6 (some 11) rfl rfl (by kernel_rfl) (by kernel_rfl) (by kernel_rfl) noPanic_put rfl (.bool (g != g')) (fun _ _ => by cases g <;> cases g' <;> go_simp) hS ?_
  simp only [Act.put, List.setIfInBounds_toArray, List.set_cons_zero, List.set_cons_succ]
  refine held_valS 7 (some 12) rfl rfl (by kernel_rfl) (by kernel_rfl) (by kernel_rfl) noPanic_put rfl (.pointer (some ⟨w.heap.size, 0, none⟩)) (fun _ _ => by go_simp) hS ?_
  simp only [Act.put, List.setIfInBounds_toArray, List.set_cons_zero, List.set_cons_succ]
  refine held_valS 8 (some 13) rfl rfl (by kernel_rfl) (by kernel_rfl) (by kernel_rfl) noPanic_put rfl (.pointer (some ⟨w.heap.size, 1, none⟩)) (fun _ _ => by go_simp) hS ?_
  simp only [Act.put, List.setIfInBounds_toArray, List.set_cons_zero, List.set_cons_succ]
  refine held_valS 9 (some 14) rfl rfl (by kernel_rfl) (by kernel_rfl) (by kernel_rfl) noPanic_put rfl (.agg (natC k p)) (fun _ h => run_mid_nat _ rfl w.heap.size 1 rfl k p h.1.size hp) hS ?_
  simp only [Act.put, List.setIfInBounds_toArray, List.set_cons_zero, List.set_cons_succ]
  refine held_valS 10 (some 15) rfl rfl (by kernel_rfl) (by kernel_rfl) (by kernel_rfl) noPanic_put rfl (.pointer (some ⟨w.heap.size + 1, 0, none⟩)) (fun _ _ => by go_simp) hS ?_
  simp only [Act.put, List.setIfInBounds_toArray, List.set_cons_zero, List.set_cons_succ]
  refine held_valS 11 (some 16) rfl rfl (by kernel_rfl) (by kernel_rfl) (by kernel_rfl) noPanic_put rfl (.pointer (some ⟨w.heap.size + 1, 1, none⟩)) (fun _ _ => by go_simp) hS ?_
  simp only [Act.put, List.setIfInBounds_toArray, List.set_cons_zero, List.set_cons_succ]
  refine held_valS 12 (some 17) rfl rfl (by kernel_rfl) (by kernel_rfl) (by kernel_rfl) noPanic_put rfl (.agg (natC k' p')) (fun _ h => run_mid_nat _ rfl (w.heap.size + 1) 1 rfl k' p' h.2.size hp') hS ?_
  simp only [Act.put, List.setIfInBounds_toArray, List.set_cons_zero, List.set_cons_succ]
  refine held_valS 15 (some 20) rfl rfl (by kernel_rfl) (by kernel_rfl) (by kernel_rfl) noPanic_put rfl (.pointer (some ⟨w.heap.size, 206, none⟩)) (fun _ _ => by go_simp) hS ?_
  simp only [Act.put, List.setIfInBounds_toArray, List.set_cons_zero, List.set_cons_succ]
  refine held_valS 16 (some 21) rfl rfl (by kernel_rfl) (by kernel_rfl) (by kernel_rfl) noPanic_put rfl (.agg (natC j q)) (fun _ h => run_mid_nat _ rfl w.heap.size 206 rfl j q (h.1.bottom hp) hq) hS ?_
  simp only [Act.put, List.setIfInBounds_toArray, List.set_cons_zero, List.set_cons_succ]
  refine held_valS 17 (some 22) rfl rfl (by kernel_rfl) (by kernel_rfl) (by kernel_rfl) noPanic_put rfl (.pointer (some ⟨w.heap.size + 1, 206, none⟩)) (fun _ _ => by go_simp) hS ?_
  simp only [Act.put, List.setIfInBounds_toArray, List.set_cons_zero, List.set_cons_succ]
  refine held_valS 18 (some 23) rfl rfl (by kernel_rfl) (by kernel_rfl) (by kernel_rfl) noPanic_put rfl (.agg (natC j' q')) (fun _ h => run_mid_nat _ rfl (w.heap.size + 1) 206 rfl j' q' (h.2.bottom hp') hq') hS ?_
  simp only [Act.put, List.setIfInBounds_toArray, List.set_cons_zero, List.set_cons_succ]
  refine held_call 13 (some 18) (by kernel_rfl) rfl rfl rfl 71 #[.agg (natC k p), .agg (natC k' p')] (by go_simp) _ (times_any W.drew HP.out.1 HP'.out.1 hk hk') ?_
  rintro e w1 ⟨c, t, rfl, hR1, hW1⟩
  have hW1 : Below W.heap.size W w1 := ⟨hW1.os, hW1.tape, hW1.output, hW1.size, hW1.block⟩
  have hs1 := hW1.size
  have ht := hR1.len
  have hc : c ≤ 200 := by have := Rep.mul_used HP.out.1 HP'.out.1 hR1; omega
  have HR1 := hide hR1
  have HC0 : Hid (decide (0 < c) = decide (n * n' ≠ 0)) := by
    unfold Hid
    have h := hR1.zero_iff
    by_cases e : c = 0
    · rw [decide_eq_false (by omega), decide_eq_false (by have := h.1 e; omega)]
    · rw [decide_eq_true (by omega), decide_eq_true (show n * n' ≠ 0 from fun e' => e (h.2 e'))]
  have S1 : NumAt w1 w.heap.size g k p j q ∧ NumAt w1 (w.heap.size + 1) g' k' p' j' q' := ⟨RowAt.below A hW1 (by omega), RowAt.below B hW1 (by omega)⟩
  have C1 : NumAt w1 (w.heap.size + 1 + 1) false 0 zP 0 zP := RowAt.below C hW1 (by omega)
  have hB1 : Below w.heap.size w w1 := hB.trans (hW1.mono hB.size)
  clear A B C hB hS hR1 hW1
  refine ⟨_, rfl, S1, ?_⟩
  simp only [Act.put, List.setIfInBounds_toArray, List.set_cons_zero, List.set_cons_succ]
  refine held_call 14 (some 19) (by kernel_rfl) rfl rfl rfl 35 #[.bool (g != g'), .agg (natC c t)] (by go_simp) _ (wholeOf_any (g != g') c t w1 ht) ?_
  rintro e w2 ⟨rfl, hW2⟩
  rw [HC0.out]
  have hs2 := hW2.size
  have S2 : NumAt w2 w.heap.size g k p j q ∧ NumAt w2 (w.heap.size + 1) g' k' p' j' q' := ⟨RowAt.below S1.1 hW2 (by omega), RowAt.below S1.2 hW2 (by omega)⟩
  have C2 : NumAt w2 (w.heap.size + 1 + 1) false 0 zP 0 zP := RowAt.below C1 hW2 (by omega)
  have hB2 : Below w.heap.size w w2 := hB1.trans (hW2.mono hB1.size)
  obtain ⟨G, hG⟩ : ∃ G, G = ((g != g') && decide (n * n' ≠ 0)) := ⟨_, rfl⟩
  rw [← hG]
  have HG := hide hG
  clear S1 C1 hB1 hW2 hG
  refine ⟨_, rfl, S2, ?_⟩
  simp only [Act.put, List.setIfInBounds_toArray, List.set_cons_zero, List.set_cons_succ]
  refine held_call 19 (some 24) (by kernel_rfl) rfl rfl rfl 71 #[.agg (natC j q), .agg (natC j' q')] (by go_simp) _ (times_any w2 HP.out.2 HP'.out.2 hj hj') ?_
  rintro e w3 ⟨d, u, rfl, hR3, hW3⟩
  have hs3 := hW3.size
  have hu := hR3.len
  have hd : d ≤ 200 := by have := Rep.mul_used HP.out.2 HP'.out.2 hR3; omega
  have hd0 : 0 < d := by
    apply Nat.pos_of_ne_zero
    intro e
    have h1 := hR3.zero_iff.1 e
    rcases Nat.mul_eq_zero.1 h1 with h2 | h2
    · exact h0 (HP.out.2.zero_iff.2 h2)
    · exact h0' (HP'.out.2.zero_iff.2 h2)
  have HR3 := hide hR3
  have S3 : NumAt w3 w.heap.size g k p j q ∧ NumAt w3 (w.heap.size + 1) g' k' p' j' q' := ⟨RowAt.below S2.1 hW3 (by omega), RowAt.below S2.2 hW3 (by omega)⟩
  have C3 : NumAt w3 (w.heap.size + 1 + 1) false 0 zP 0 zP := RowAt.below C2 hW3 (by omega)
  have hB3 : Below w.heap.size w w3 := hB2.trans (hW3.mono hB2.size)
  clear S2 C2 hB2 hW3 hR3
  refine ⟨_, rfl, S3, ?_⟩
  simp only [Act.put, List.setIfInBounds_toArray, List.set_cons_zero, List.set_cons_succ]
  refine held_call 20 (some 25) (by kernel_rfl) rfl rfl rfl 34 #[.agg (wholeC G c t), .agg (natC d u)] (by go_simp) _ (fraction_any G w3 HR1.out HR3.out hd0 (by omega) (by omega)) ?_
  rintro e w4 ⟨i, l, r, s, rfl, hRi, hRl, hW4⟩
  have hr := hRi.len
  have hs := hRl.len
  have HRi := hide (And.intro hRi hRl)
  have hs4 := hW4.size
  have S4 : NumAt w4 w.heap.size g k p j q ∧ NumAt w4 (w.heap.size + 1) g' k' p' j' q' := ⟨RowAt.below S3.1 hW4 (by omega), RowAt.below S3.2 hW4 (by omega)⟩
  have C4 : NumAt w4 (w.heap.size + 1 + 1) false 0 zP 0 zP := RowAt.below C3 hW4 (by omega)
  have hB4 : Below w.heap.size w w4 := hB3.trans (hW4.mono hB3.size)
  clear S3 C3 hB3 hW4 hRi hRl
  refine ⟨_, rfl, S4, ?_⟩
  simp only [Act.put, List.setIfInBounds_toArray, List.set_cons_zero, List.set_cons_succ]
  refine held_store_num 21 (by kernel_rfl) rfl rfl _ _ rfl rfl (w.heap.size + 1 + 1) G i r l s rfl rfl false 0 zP 0 zP C4 zP_len zP_len hr hs ?_
  intro w5 hN5 hg5 hs5
  refine ⟨⟨RowAt.grown S4.1 hg5 (by simp; omega), RowAt.grown S4.2 hg5 (by simp)⟩, ?_⟩
  refine wpAnyH_done (by kernel_rfl) ?_ _
  refine NoPanic.normal ?_
  go_wp2
  refine bodyPost_ret (v := .agg (numC G i r l s)) (res_num Tryd.results41 _ _ (w.heap.size + 1 + 1) _ _ _ _ _ rfl hN5 hr hs) rfl ⟨i, l, r, s, by rw [HG.out], HRi.out.1, HRi.out.2, ?_⟩
  exact hB4.grown hg5 (by have := hB4.size; omega) (by intro k hk; cases hk; omega)

set_option maxHeartbeats 1000000 in
set_option maxRecDepth 100000 in
theorem turned_any {k j : Nat} {p q : List Int} (g : Bool) (w : World) (hp : p.length = 204) (hq : q.length = 204) :
    Calls Tryd.prog 43 #[.agg (numC g k p j q)] w fun e w' => e = .returned (.agg (numC g j q k p)) ∧ Below w.heap.size w w' := by
  have hz2 := zero_num.1
  have A : NumAt ((w.alloc (.cells (numC g k p j q) 42)).alloc (.cells (numC false 0 zP 0 zP) 42)) w.heap.size g k p j q := RowAt.old (NumAt.new w g k p j q) _
  have C : NumAt ((w.alloc (.cells (numC g k p j q) 42)).alloc (.cells (numC false 0 zP 0 zP) 42)) (w.heap.size + 1) false 0 zP 0 zP := by
    have := NumAt.new (w.alloc (.cells (numC g k p j q) 42)) false 0 zP 0 zP
    simp only [World.size_alloc] at this; exact this
  have hB : Below w.heap.size w ((w.alloc (.cells (numC g k p j q) 42)).alloc (.cells (numC false 0 zP 0 zP) 42)) := ((Below.refl _ _).alloc (Nat.le_refl _) _).alloc (by simp) _
  have c0 := A.neg
  go_enter Tryd.func43, Tryd.ntmps43
  go_wp2_with (first | (refine load_mid_nat rfl _ rfl w.heap.size 206 rfl j q (A.bottom hp) hq ?_) | (refine load_mid_nat rfl _ rfl w.heap.size 1 rfl k p A.size hp ?_) | (refine build_whole rfl _ _ rfl _ rfl g j q hq rfl rfl ?_) | (refine build_num rfl _ _ rfl _ rfl g j q k p hq hp rfl rfl ?_) | (refine store_num rfl _ _ rfl rfl (w.heap.size + 1) g j q k p rfl rfl false 0 zP 0 zP C zP_len zP_len hq hp ?_; intro w1 hN1 hg1 hs1))
  refine bodyPost_ret (v := .agg (numC g j q k p)) (res_num Tryd.results43 _ _ (w.heap.size + 1) _ _ _ _ _ rfl hN1 hq hp) rfl ⟨rfl, ?_⟩
  exact hB.grown hg1 (by simp; omega) (by intro k hk; cases hk; omega)

/-- The sign of a whole number. -/
def sgn (g : Bool) (k : Nat) : Int := if k = 0 then 0 else if g then -1 else 1

set_option maxHeartbeats 400000 in
theorem sign_any {k : Nat} {p : List Int} (g : Bool) (w : World) :
    Calls Tryd.prog 42 #[.agg (wholeC g k p)] w fun e w' => e = .returned (.int .i64 (sgn g k)) ∧ Below w.heap.size w w' := by
  have hz1 := zero_whole.1
  have A := WholeAt.new w g k p
  have hB : Below w.heap.size w (w.alloc (.cells (wholeC g k p) 40)) := (Below.refl _ _).alloc (Nat.le_refl _) _
  have c0 := A.neg
  have c1 := A.used
  by_cases h : k = 0
  · have h' : ((k : Int) == 0) = true := by simp [h]
    have HE : Hid (sgn g k = 0) := if_pos h
    clear h
    go_enter Tryd.func42, Tryd.ntmps42
    go_wp2
    go_ret
    exact ⟨by rw [HE.out]; rfl, hB⟩
  · have h' : ((k : Int) == 0) = false := by simp [h]
    have HE : Hid (sgn g k = if g then -1 else 1) := if_neg h
    clear h
    cases g with
    | true =>
      go_enter Tryd.func42, Tryd.ntmps42
      go_wp2
      go_ret
      exact ⟨by rw [HE.out]; rfl, hB⟩
    | false =>
      go_enter Tryd.func42, Tryd.ntmps42
      go_wp2
      go_ret
      exact ⟨by rw [HE.out]; rfl, hB⟩
end Go.Proofs.YteihephciiifbaaDoor
