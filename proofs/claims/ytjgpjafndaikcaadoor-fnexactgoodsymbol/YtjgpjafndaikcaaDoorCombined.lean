/-
  What combined of impl's nats answers.
-/
import Derived.Test.YtjgpjafndaikcaaDoorLehmer
namespace Go.Proofs.YtjgpjafndaikcaaDoor
open Go.RowKit
set_option linter.unusedVariables false

set_option maxHeartbeats 2000000 in
set_option maxRecDepth 100000 in
theorem combined_any {n m k j : Nat} {p q : List Int} (x y : Int) (w : World) (v : Nat) (hP : Rep n k p) (hQ : Rep m j q) (hk : k ≤ 202) (hj : j ≤ 202) (hx : -1000000000 ≤ x ∧ x ≤ 1000000000) (hy : -1000000000 ≤ y ∧ y ≤ 1000000000) (hv : x * (n : Int) + y * (m : Int) = (v : Int)) :
    Calls Tryd.prog 48 #[.agg (natC k p), .int .i64 x, .agg (natC j q), .int .i64 y] w fun e w' => ∃ (i : Nat) (r : List Int), e = .returned (.agg (natC i r)) ∧ Rep v i r ∧ Below w.heap.size w w' := by
  have hz := zero_nat.1
  have hp := hP.len
  have hq := hQ.len
  have HP : Hid (Rep n k p) := hP
  have HQ : Hid (Rep m j q) := hQ
  have HV := hide hv
  have HX := hide hx
  have HY := hide hy
  clear hP hQ hv hx hy
  rcases Int.lt_or_le (k : Int) (j : Int) with hkj | hkj
  · have hset : (natC k p).setIfInBounds 0 (.int .i64 (j : Int)) = natC (j : Int) p := natC_set0 _ _ _
    have A := ((NatAt.new w (j : Int) p).old (.cells (natC j q) 35)).old (.cells (natC 0 zP) 35)
    have B := (NatAt.new (w.alloc (.cells (natC (j : Int) p) 35)) j q).old (.cells (natC 0 zP) 35)
    have C := NatAt.new ((w.alloc (.cells (natC (j : Int) p) 35)).alloc (.cells (natC j q) 35)) 0 zP
    have hB : Below w.heap.size w (((w.alloc (.cells (natC (j : Int) p) 35)).alloc (.cells (natC j q) 35)).alloc (.cells (natC 0 zP) 35)) := (((Below.refl _ _).alloc (Nat.le_refl _) _).alloc (by simp) _).alloc (by simp; omega) _
    simp only [World.size_alloc] at B C
    have HSET := hide hset
    have a0 := A.c0
    rw [← hset] at a0
    clear hset
    have ak := (((NatAt.new w k p).old (.cells (natC j q) 35)).old (.cells (natC 0 zP) 35)).c0
    have af := (((NatAt.new w k p).old (.cells (natC j q) 35)).old (.cells (natC 0 zP) 35)).fr 0
    have bk := ((NatAt.new (w.alloc (.cells (natC k p) 35)) j q).old (.cells (natC 0 zP) 35)).c0
    simp only [World.size_alloc] at bk
    go_enter Tryd.func48, Tryd.ntmps48
    go_wp2
    try rw [HSET.out]
    clear a0 ak af bk HSET
    go_loopg [18] (j : Nat) (fun g i wr => ∃ t : Nat, g = j - t ∧ t ≤ j ∧ i = .int .i64 (t : Int) ∧ NatAt wr w.heap.size j (combTo p q x y t) ∧ NatAt wr (w.heap.size + 1) j q ∧ NatAt wr (w.heap.size + 1 + 1) 0 zP ∧ Below w.heap.size w wr)
    case atStart => exact ⟨0, rfl, by omega, rfl, A, B, C, hB⟩
    case round =>
      obtain ⟨t, rfl, ht, rfl, hA, hQt, hC, hW⟩ := hrel
      clear A B C hB
      have hl : (combTo p q x y t).length = 204 := by rw [combTo_len]; exact hp
      by_cases hlt : (t : Int) < (j : Int)
      · have a1 := hA.cs t (by omega)
        have b1 := hQt.cs t (by omega)
        have hfr := hA.fr (1 + t)
        have ht2 : (t : Int) < 204 := by omega
        obtain ⟨c, hc⟩ : ∃ c, c = (combTo p q x y t).getD t 0 := ⟨_, rfl⟩
        obtain ⟨d, hd⟩ : ∃ d, d = q.getD t 0 := ⟨_, rfl⟩
        have hc0 : 0 ≤ c ∧ c < 1000000 := by
          rw [hc, combTo_get _ _ _ _ _ _ (by omega), if_neg (by omega)]; exact ⟨HP.out.lo t, HP.out.hi t⟩
        have hd0 : 0 ≤ d ∧ d < 1000000 := by rw [hd]; exact ⟨HQ.out.lo t, HQ.out.hi t⟩
        obtain ⟨e1, e2⟩ := mixPart_bd HX.out hc0.1 hc0.2
        obtain ⟨f1, f2⟩ := mixPart_bd HY.out hd0.1 hd0.2
        rw [← hc] at a1
        rw [← hd] at b1
        have HCD : Hid (c = (combTo p q x y t).getD t 0 ∧ d = q.getD t 0) := ⟨hc, hd⟩
        clear hc hd hc0 hd0
        go_wp2_with fail
        refine wp_region_still_tail 16 (by kernel_rfl) (by kernel_rfl) ?_
        simp only [List.take_succ_cons, List.take_zero, List.drop_succ_cons, List.drop_zero]
        repeat still_step
        refine wpStill_nil ?_
        go_wp2
        go_roundg (j - (t + 1))
        case measure => omega
        case rel =>
          obtain ⟨hc, hd⟩ := HCD.out
          refine ⟨t + 1, rfl, by omega, by go_num, ?_, ?_, ?_, ?_⟩
          · have h1 : NatAt wr.drew w.heap.size j (combTo p q x y t) := hA
            have h2 := h1.setS t (x * c + y * d)
            show NatAt _ _ _ ((combTo p q x y t).set t (x * (combTo p q x y t).getD t 0 + y * q.getD t 0))
            rw [← hc, ← hd]
            exact h2
          · exact hQt.grown (grownBy_set (w := wr) (wr := wr.drew) ⟨rfl, rfl, rfl, Nat.le_refl _, fun _ _ _ => rfl⟩ _ _) (by simp)
          · exact hC.grown (grownBy_set (w := wr) (wr := wr.drew) ⟨rfl, rfl, rfl, Nat.le_refl _, fun _ _ _ => rfl⟩ _ _) (by simp; omega)
          · exact (hW.drew).setCell (by simp) _
      · have htj : t = j := by omega
        subst htj
        have hWs := hW.size
        have hbd : Hid (CarryBd (combTo p q x y t)) := fun i => by
          rw [combTo_get _ _ _ _ _ _ (by omega)]
          have g1 := HP.out.lo i
          have g2 := HP.out.hi i
          have g3 := mixPart_bd HX.out (HP.out.lo i) (HP.out.hi i)
          have g4 := mixPart_bd HY.out (HQ.out.lo i) (HQ.out.hi i)
          split
          · exact ⟨by omega, by omega, fun _ => by omega⟩
          · exact ⟨by omega, by omega, fun _ => by omega⟩
        have hout : Hid (∀ i, t ≤ i → (combTo p q x y t).getD i 0 = 0) := fun i h1 => by
          rw [combTo_get _ _ _ _ _ _ (by omega), if_neg (by omega)]; exact HP.out.out i (by omega)
        have hval : Hid (vb 1000000 (combTo p q x y t) = (v : Int)) := by
          unfold Hid
          rw [comb_val HP.out HQ.out x y t (by omega) (by omega) (by omega)]
          exact HV.out
        go_wp2_with fail
        refine (carry_big w.heap.size t (combTo p q x y t) _ hl (by omega) hA hbd.out hout.out).mono ?_
        rintro e w2 ⟨ok, i, r, rfl, hr, hN2, hg2, hs2, hcase⟩
        have hR : Rep v i r := by
          rcases hcase with ⟨_, n', h1, h2⟩ | ⟨_, h1⟩
          · have : n' = v := by have := hval.out; omega
            rw [← this]; exact h2
          · have := hval.out; omega
        have hC2 := hC.grown hg2 (by simp; omega)
        have hW2 : Below w.heap.size w w2 := hW.grown hg2 (by omega) (by intro k hk; cases hk; omega)
        have HR : Hid (Rep v i r) := hR
        clear hA hQt hC hW hg2 hs2 hcase hR
        go_wp2_with (first | (refine load_nat rfl _ rfl w.heap.size rfl i r hN2 hr ?_) | (refine store_nat rfl _ _ rfl rfl (w.heap.size + 1 + 1) i r rfl rfl 0 zP hC2 zP_len hr ?_; intro w3 hN3 hg3 hs3))
        refine bodyPost_ret (v := .agg (natC i r)) (res_nat Tryd.results48 _ _ (w.heap.size + 1 + 1) _ _ rfl hN3 hr) rfl ⟨i, r, rfl, HR.out, ?_⟩
        exact hW2.grown hg3 (by have := hW2.size; omega) (by intro k hk; cases hk; omega)
  · have hset : (natC k p).setIfInBounds 0 (.int .i64 (k : Int)) = natC (k : Int) p := natC_set0 _ _ _
    have A := ((NatAt.new w (k : Int) p).old (.cells (natC j q) 35)).old (.cells (natC 0 zP) 35)
    have B := (NatAt.new (w.alloc (.cells (natC (k : Int) p) 35)) j q).old (.cells (natC 0 zP) 35)
    have C := NatAt.new ((w.alloc (.cells (natC (k : Int) p) 35)).alloc (.cells (natC j q) 35)) 0 zP
    have hB : Below w.heap.size w (((w.alloc (.cells (natC (k : Int) p) 35)).alloc (.cells (natC j q) 35)).alloc (.cells (natC 0 zP) 35)) := (((Below.refl _ _).alloc (Nat.le_refl _) _).alloc (by simp) _).alloc (by simp; omega) _
    simp only [World.size_alloc] at B C
    have HSET := hide hset
    have a0 := A.c0
    rw [← hset] at a0
    clear hset
    have ak := (((NatAt.new w k p).old (.cells (natC j q) 35)).old (.cells (natC 0 zP) 35)).c0
    have af := (((NatAt.new w k p).old (.cells (natC j q) 35)).old (.cells (natC 0 zP) 35)).fr 0
    have bk := ((NatAt.new (w.alloc (.cells (natC k p) 35)) j q).old (.cells (natC 0 zP) 35)).c0
    simp only [World.size_alloc] at bk
    go_enter Tryd.func48, Tryd.ntmps48
    go_wp2
    try rw [HSET.out]
    clear a0 ak af bk HSET
    go_loopg [18] (k : Nat) (fun g i wr => ∃ t : Nat, g = k - t ∧ t ≤ k ∧ i = .int .i64 (t : Int) ∧ NatAt wr w.heap.size k (combTo p q x y t) ∧ NatAt wr (w.heap.size + 1) j q ∧ NatAt wr (w.heap.size + 1 + 1) 0 zP ∧ Below w.heap.size w wr)
    case atStart => exact ⟨0, rfl, by omega, rfl, A, B, C, hB⟩
    case round =>
      obtain ⟨t, rfl, ht, rfl, hA, hQt, hC, hW⟩ := hrel
      clear A B C hB
      have hl : (combTo p q x y t).length = 204 := by rw [combTo_len]; exact hp
      by_cases hlt : (t : Int) < (k : Int)
      · have a1 := hA.cs t (by omega)
        have b1 := hQt.cs t (by omega)
        have hfr := hA.fr (1 + t)
        have ht2 : (t : Int) < 204 := by omega
        obtain ⟨c, hc⟩ : ∃ c, c = (combTo p q x y t).getD t 0 := ⟨_, rfl⟩
        obtain ⟨d, hd⟩ : ∃ d, d = q.getD t 0 := ⟨_, rfl⟩
        have hc0 : 0 ≤ c ∧ c < 1000000 := by
          rw [hc, combTo_get _ _ _ _ _ _ (by omega), if_neg (by omega)]; exact ⟨HP.out.lo t, HP.out.hi t⟩
        have hd0 : 0 ≤ d ∧ d < 1000000 := by rw [hd]; exact ⟨HQ.out.lo t, HQ.out.hi t⟩
        obtain ⟨e1, e2⟩ := mixPart_bd HX.out hc0.1 hc0.2
        obtain ⟨f1, f2⟩ := mixPart_bd HY.out hd0.1 hd0.2
        rw [← hc] at a1
        rw [← hd] at b1
        have HCD : Hid (c = (combTo p q x y t).getD t 0 ∧ d = q.getD t 0) := ⟨hc, hd⟩
        clear hc hd hc0 hd0
        go_wp2_with fail
        refine wp_region_still_tail 16 (by kernel_rfl) (by kernel_rfl) ?_
        simp only [List.take_succ_cons, List.take_zero, List.drop_succ_cons, List.drop_zero]
        repeat still_step
        refine wpStill_nil ?_
        go_wp2
        go_roundg (k - (t + 1))
        case measure => omega
        case rel =>
          obtain ⟨hc, hd⟩ := HCD.out
          refine ⟨t + 1, rfl, by omega, by go_num, ?_, ?_, ?_, ?_⟩
          · have h1 : NatAt wr.drew w.heap.size k (combTo p q x y t) := hA
            have h2 := h1.setS t (x * c + y * d)
            show NatAt _ _ _ ((combTo p q x y t).set t (x * (combTo p q x y t).getD t 0 + y * q.getD t 0))
            rw [← hc, ← hd]
            exact h2
          · exact hQt.grown (grownBy_set (w := wr) (wr := wr.drew) ⟨rfl, rfl, rfl, Nat.le_refl _, fun _ _ _ => rfl⟩ _ _) (by simp)
          · exact hC.grown (grownBy_set (w := wr) (wr := wr.drew) ⟨rfl, rfl, rfl, Nat.le_refl _, fun _ _ _ => rfl⟩ _ _) (by simp; omega)
          · exact (hW.drew).setCell (by simp) _
      · have htj : t = k := by omega
        subst htj
        have hWs := hW.size
        have hbd : Hid (CarryBd (combTo p q x y t)) := fun i => by
          rw [combTo_get _ _ _ _ _ _ (by omega)]
          have g1 := HP.out.lo i
          have g2 := HP.out.hi i
          have g3 := mixPart_bd HX.out (HP.out.lo i) (HP.out.hi i)
          have g4 := mixPart_bd HY.out (HQ.out.lo i) (HQ.out.hi i)
          split
          · exact ⟨by omega, by omega, fun _ => by omega⟩
          · exact ⟨by omega, by omega, fun _ => by omega⟩
        have hout : Hid (∀ i, t ≤ i → (combTo p q x y t).getD i 0 = 0) := fun i h1 => by
          rw [combTo_get _ _ _ _ _ _ (by omega), if_neg (by omega)]; exact HP.out.out i (by omega)
        have hval : Hid (vb 1000000 (combTo p q x y t) = (v : Int)) := by
          unfold Hid
          rw [comb_val HP.out HQ.out x y t (by omega) (by omega) (by omega)]
          exact HV.out
        go_wp2_with fail
        refine (carry_big w.heap.size t (combTo p q x y t) _ hl (by omega) hA hbd.out hout.out).mono ?_
        rintro e w2 ⟨ok, i, r, rfl, hr, hN2, hg2, hs2, hcase⟩
        have hR : Rep v i r := by
          rcases hcase with ⟨_, n', h1, h2⟩ | ⟨_, h1⟩
          · have : n' = v := by have := hval.out; omega
            rw [← this]; exact h2
          · have := hval.out; omega
        have hC2 := hC.grown hg2 (by simp; omega)
        have hW2 : Below w.heap.size w w2 := hW.grown hg2 (by omega) (by intro k hk; cases hk; omega)
        have HR : Hid (Rep v i r) := hR
        clear hA hQt hC hW hg2 hs2 hcase hR
        go_wp2_with (first | (refine load_nat rfl _ rfl w.heap.size rfl i r hN2 hr ?_) | (refine store_nat rfl _ _ rfl rfl (w.heap.size + 1 + 1) i r rfl rfl 0 zP hC2 zP_len hr ?_; intro w3 hN3 hg3 hs3))
        refine bodyPost_ret (v := .agg (natC i r)) (res_nat Tryd.results48 _ _ (w.heap.size + 1 + 1) _ _ rfl hN3 hr) rfl ⟨i, r, rfl, HR.out, ?_⟩
        exact hW2.grown hg3 (by have := hW2.size; omega) (by intro k hk; cases hk; omega)
end Go.Proofs.YtjgpjafndaikcaaDoor
