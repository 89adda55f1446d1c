/-
  What manyTwos of impl answers.
-/
import Derived.Test.YtoiegaggekgmjaaImplTwo2
import Derived.Test.YtoiegaggekgmjaaRealMath
namespace Go.Proofs.Ytoiegaggekgmjaa
open Go.RowKit
set_option linter.unusedVariables false

theorem cmpI_nat (a b : Nat) : cmpI (a : Int) (b : Int) = cmpN a b := by
  unfold cmpI cmpN
  by_cases h1 : a < b
  · rw [if_pos h1, if_pos (by omega)]
  · by_cases h2 : a = b
    · rw [if_neg h1, if_pos h2, if_neg (by omega), if_neg (by omega)]
    · rw [if_neg h1, if_neg h2, if_neg (by omega), if_pos (by omega)]
theorem Rep.cnt_le' {n k m j : Nat} {p q : List Int} (h : Rep n k p) (g : Rep m j q) (hle : n ≤ m) : k ≤ j := by
  rcases Nat.lt_or_ge j k with h1 | h1
  · have := g.cnt_lt h h1
    omega
  · exact h1

set_option maxHeartbeats 4000000 in
set_option maxRecDepth 100000 in
theorem manyTwos_any {n m k j K : Nat} {p q : List Int} (z : Int) (w : World) (hP : Rep n k p) (hQ : Rep m j q) (hk : k ≤ 100) (hj : j ≤ 100) (hm : m ≠ 0) (hz' : z + 150 = (K : Int)) (hb : z ≤ 1000) :
    Calls Try.prog 96 #[.agg (natC k p), .agg (natC j q), .int .i64 z] w fun e w' => ∃ (i : Nat) (r : List Int), e = .returned (.tuple #[.agg (natC i r), .int .i64 (ck n m K)]) ∧ Rep (qk n m K) i r ∧ Below w.heap.size w w' := by
  have hz := zero_nat.1
  have lp := hP.len
  have lq := hQ.len
  have A := ((NatAt.new w k p).old (.cells (natC j q) 43)).old (.cells (natC 0 zP) 43)
  have B := (NatAt.new (w.alloc (.cells (natC k p) 43)) j q).old (.cells (natC 0 zP) 43)
  have C := NatAt.new ((w.alloc (.cells (natC k p) 43)).alloc (.cells (natC j q) 43)) 0 zP
  have hB : Below w.heap.size w (((w.alloc (.cells (natC k p) 43)).alloc (.cells (natC j q) 43)).alloc (.cells (natC 0 zP) 43)) := (((Below.refl _ _).alloc (Nat.le_refl _) _).alloc (by simp) _).alloc (by simp; omega) _
  have hws : (((w.alloc (.cells (natC k p) 43)).alloc (.cells (natC j q) 43)).alloc (.cells (natC 0 zP) 43)).heap.size = w.heap.size + 1 + 1 + 1 := by simp
  simp only [World.size_alloc] at B C
  have HP := hide (And.intro hP hQ)
  have HM := hide hm
  clear hP hQ hm
  by_cases hneg : z < 0
  · obtain ⟨J, hJ⟩ : ∃ J : Nat, -z = (J : Int) := ⟨(-z).toNat, by omega⟩
    have hK : K = 150 - J := by omega
    have hJ150 : J ≤ 150 := by omega
    have hwJ : IntKind.i64.wrap (J : Int) = (J : Int) := by rw [IntKind.wrap_i64]; omega
    have HC : Hid (qk n m K = n * 2 ^ J / m ∧ ck n m K = cmpN (2 * (n * 2 ^ J % m)) m) := by rw [hK]; exact cut_low n m J hJ150
    have hjb : 0 < j := Nat.pos_of_ne_zero (fun h => HM.out (HP.out.2.zero_iff.1 h))
    clear hK
    go_enter Try.func96, Try.ntmps96
    generalize hw0 : ((w.alloc (.cells (natC k p) 43)).alloc (.cells (natC j q) 43)).alloc (.cells (natC 0 zP) 43) = w0 at A B C hB hws
    go_wp2_with fail
    clear hw0
    refine late_begin [5] (fun w' => NatAt w' w.heap.size k p) (by kernel_rfl) ?_
    have hS : NatAt w0.drew w.heap.size k p := A
    refine late_val 0 (some 12) rfl rfl (by kernel_rfl) (by kernel_rfl) (by kernel_rfl) [4, 5] (by kernel_rfl) noPanic_put rfl (.agg (natC k p)) (fun _ h => run_nat0 _ rfl w.heap.size rfl k p lp h) hS ?_
    simp only [Act.put, List.setIfInBounds_toArray, List.set_cons_zero, List.set_cons_succ]
    refine late_val 1 (some 13) rfl rfl (by kernel_rfl) (by kernel_rfl) (by kernel_rfl) [2, 3, 4, 5] (by kernel_rfl) noPanic_put rfl (.int .i64 z) (fun _ _ => by go_simp) hS ?_
    simp only [Act.put, List.setIfInBounds_toArray, List.set_cons_zero, List.set_cons_succ]
    refine late_val 2 (some 14) rfl rfl (by kernel_rfl) (by kernel_rfl) (by kernel_rfl) [3, 4, 5] (by kernel_rfl) noPanic_put rfl (.int .i64 (-z)) (fun _ _ => by go_simp) hS ?_
    simp only [Act.put, List.setIfInBounds_toArray, List.set_cons_zero, List.set_cons_succ]
    refine late_call 3 (some 15) (by kernel_rfl) rfl rfl rfl 72 #[.int .i64 (-z)] (by go_simp) _ (twoTo_any J (-z) w0.drew hJ (by omega)) ?_
    rintro e wa ⟨ia, ra, rfl, hRa, hWa⟩
    have hsa : w0.heap.size ≤ wa.heap.size := hWa.size
    have hSa : NatAt wa w.heap.size k p := hS.below hWa (by show _ < w0.heap.size; omega)
    have hia : ia ≤ 100 := hRa.fits.2 (two_lt J (by omega))
    refine ⟨_, rfl, .inr hSa, ?_⟩
    simp only [Act.put, List.setIfInBounds_toArray, List.set_cons_zero, List.set_cons_succ]
    refine late_call 4 (some 16) (by kernel_rfl) rfl rfl rfl 77 #[.agg (natC k p), .agg (natC ia ra)] (by go_simp) _ (times_any wa HP.out.1 hRa hk hia) ?_
    rintro e wb ⟨ib, rb, rfl, hRb, hWb⟩
    have hsb : wa.heap.size ≤ wb.heap.size := hWb.size
    have hSb : NatAt wb w.heap.size k p := hSa.below hWb (by omega)
    have hib : ib ≤ 200 := Nat.le_trans (HP.out.1.mul_used hRa hRb) (by omega)
    have lb := hRb.len
    have HRb := hide hRb
    refine ⟨_, rfl, .inr hSb, ?_⟩
    simp only [Act.put, List.setIfInBounds_toArray, List.set_cons_zero, List.set_cons_succ]
    refine late_store 5 (by kernel_rfl) rfl rfl _ _ rfl rfl w.heap.size ib rb rfl rfl k p hSb lp lb ?_
    intro w1 hN1 hg1 hs1
    refine ⟨.inl ⟨5, by simp, rfl⟩, ?_⟩
    refine late_done (by kernel_rfl) ?_ _
    refine NoPanic.normal ?_
    have A1 : NatAt w1 w.heap.size ib rb := hN1
    have B1 : NatAt w1 (w.heap.size + 1) j q := ((NatAt.below (w := w0.drew) B hWa (by show _ < w0.heap.size; omega)).below hWb (by omega)).grown hg1 (by simp)
    have C1 : NatAt w1 (w.heap.size + 1 + 1) 0 zP := ((NatAt.below (w := w0.drew) C hWa (by show _ < w0.heap.size; omega)).below hWb (by omega)).grown hg1 (by simp; omega)
    have hBb : Below w.heap.size w wb := (hB.drew.trans (hWa.mono (by show _ ≤ w0.heap.size; omega))).trans (hWb.mono (by omega))
    have hB1 : Below w.heap.size w w1 := hBb.grown hg1 hBb.size (by intro k hk; cases hk; omega)
    have hs1' : w.heap.size + 1 + 1 + 1 ≤ w1.heap.size := by omega
    clear hS hSa hSb A B C hB hWa hWb hRa hRb hN1 hg1 hBb hs1 hsa hsb hws
    go_wp2_with (first | (refine load_nat rfl (.tmp 3) rfl w.heap.size rfl ib rb A1 lb ?_) | (refine load_nat rfl (.tmp 4) rfl (w.heap.size + 1) rfl j q B1 lq ?_))
    refine (divide_any w1 HRb.out HP.out.2 hjb (by omega)).mono ?_
    rintro e w2 ⟨i2, i3, r2, r3, rfl, hR2, hR3, hW2⟩
    have l2 := hR2.len
    have l3 := hR3.len
    have hi3 : i3 ≤ 200 := Nat.le_trans (hR3.cnt_le' HRb.out (Nat.mod_le _ _)) (by omega)
    have HR2 := hide (And.intro hR2 hR3)
    have hs2 := hW2.size
    have B2 : NatAt w2 (w.heap.size + 1) j q := B1.below hW2 (by omega)
    have C2 : NatAt w2 (w.heap.size + 1 + 1) 0 zP := C1.below hW2 (by omega)
    have hB2 : Below w.heap.size w w2 := hB1.trans (hW2.mono (by omega))
    have D2 := (NatAt.new w2 0 zP).old (.cells (natC 0 zP) 43)
    have E2 := NatAt.new (w2.alloc (.cells (natC 0 zP) 43)) 0 zP
    simp only [World.size_alloc] at E2
    clear A1 B1 C1 hB1 hW2 hR2 hR3
    go_wp2_with (first | (refine store_nat rfl (.tmp 8) _ rfl rfl w2.heap.size i2 r2 rfl rfl 0 zP D2 zP_len l2 ?_; intro w3 hN3 hg3 hs3) | (refine store_nat rfl (.tmp 9) _ rfl rfl (w2.heap.size + 1) i3 r3 rfl rfl 0 zP (E2.grown hg3 (by simp)) zP_len l3 ?_; intro w4 hN4 hg4 hs4))
    have B4 : NatAt w4 (w.heap.size + 1) j q := (((B2.old _).old _).grown hg3 (by simp; omega)).grown hg4 (by simp; omega)
    have C4 : NatAt w4 (w.heap.size + 1 + 1) 0 zP := (((C2.old _).old _).grown hg3 (by simp; omega)).grown hg4 (by simp; omega)
    have D4 : NatAt w4 w2.heap.size i2 r2 := hN3.grown hg4 (by simp)
    have hB3 : Below w.heap.size w w3 := ((hB2.alloc hB2.size _).alloc (by simp; have := hB2.size; omega) _).grown hg3 (by simp; have := hB2.size; omega) (by intro k hk; cases hk; have := hB2.size; omega)
    have hB4 : Below w.heap.size w w4 := hB3.grown hg4 hB3.size (by intro k hk; cases hk; omega)
    have hs4' : w2.heap.size + 1 + 1 ≤ w4.heap.size := by rw [hs4, hs3]; simp
    clear B2 C2 hB2 D2 E2 hg3 hg4 hs3 hs4 hN3 hB3
    refine held_begin (fun w' => NatAt w' w2.heap.size i2 r2 ∧ NatAt w' (w2.heap.size + 1) i3 r3 ∧ NatAt w' (w.heap.size + 1) j q) (by kernel_rfl) ?_
    have hS : NatAt w4.drew w2.heap.size i2 r2 ∧ NatAt w4.drew (w2.heap.size + 1) i3 r3 ∧ NatAt w4.drew (w.heap.size + 1) j q := ⟨D4, hN4, B4⟩
    refine held_load 0 (some 27) rfl rfl (by kernel_rfl) (by kernel_rfl) (by kernel_rfl) noPanic_put rfl _ rfl (w2.heap.size) rfl i2 r2 (fun _ h => h.1) l2 hS ?_
    simp only [Act.put, List.setIfInBounds_toArray, List.set_cons_zero, List.set_cons_succ]
    refine held_load 1 (some 28) rfl rfl (by kernel_rfl) (by kernel_rfl) (by kernel_rfl) noPanic_put rfl _ rfl (w2.heap.size + 1) rfl i3 r3 (fun _ h => h.2.1) l3 hS ?_
    simp only [Act.put, List.setIfInBounds_toArray, List.set_cons_zero, List.set_cons_succ]
    refine held_load 3 (some 30) rfl rfl (by kernel_rfl) (by kernel_rfl) (by kernel_rfl) noPanic_put rfl _ rfl (w.heap.size + 1) rfl j q (fun _ h => h.2.2) lq hS ?_
    simp only [Act.put, List.setIfInBounds_toArray, List.set_cons_zero, List.set_cons_succ]
    refine held_call 2 (some 29) (by kernel_rfl) rfl rfl rfl 101 #[.agg (natC i3 r3), .int .i64 2, .int .i64 0] (by go_simp) _ (timesWide_any 2 0 w4.drew 2 0 HR2.out.2 hi3 rfl rfl (by omega) (by omega) (by omega) (by omega)) ?_
    rintro e w5 ⟨i5, r5, rfl, hR5, hW5⟩
    have hs5 : w4.heap.size ≤ w5.heap.size := hW5.size
    have hS5 : NatAt w5 w2.heap.size i2 r2 ∧ NatAt w5 (w2.heap.size + 1) i3 r3 ∧ NatAt w5 (w.heap.size + 1) j q := ⟨hS.1.below hW5 (by show _ < w4.heap.size; omega), hS.2.1.below hW5 (by show _ < w4.heap.size; omega), hS.2.2.below hW5 (by show _ < w4.heap.size; omega)⟩
    have C5 : NatAt w5 (w.heap.size + 1 + 1) 0 zP := NatAt.below (w := w4.drew) C4 hW5 (by show _ < w4.heap.size; omega)
    have hB5 : Below w.heap.size w w5 := hB4.drew.trans (hW5.mono (by show _ ≤ w4.heap.size; omega))
    refine ⟨_, rfl, hS5, ?_⟩
    simp only [Act.put, List.setIfInBounds_toArray, List.set_cons_zero, List.set_cons_succ]
    refine held_call 4 (some 31) (by kernel_rfl) rfl rfl rfl 97 #[.agg (natC i5 r5), .agg (natC j q)] (by go_simp) _ (compare_rep w5 hR5 HP.out.2) ?_
    rintro e w6 ⟨rfl, hW6⟩
    have hs6 : w5.heap.size ≤ w6.heap.size := hW6.size
    have hS6 : NatAt w6 w2.heap.size i2 r2 ∧ NatAt w6 (w2.heap.size + 1) i3 r3 ∧ NatAt w6 (w.heap.size + 1) j q := ⟨hS5.1.below hW6 (by omega), hS5.2.1.below hW6 (by omega), hS5.2.2.below hW6 (by omega)⟩
    have C6 : NatAt w6 (w.heap.size + 1 + 1) 0 zP := C5.below hW6 (by omega)
    have hB6 : Below w.heap.size w w6 := hB5.trans (hW6.mono (by omega))
    refine ⟨_, rfl, hS6, ?_⟩
    simp only [Act.put, List.setIfInBounds_toArray, List.set_cons_zero, List.set_cons_succ]
    refine held_store 5 (by kernel_rfl) rfl rfl _ _ rfl rfl (w.heap.size + 1 + 1) i2 r2 rfl rfl 0 zP C6 zP_len l2 ?_
    intro w7 hN7 hg7 hs7
    have hS7 : NatAt w7 w2.heap.size i2 r2 ∧ NatAt w7 (w2.heap.size + 1) i3 r3 ∧ NatAt w7 (w.heap.size + 1) j q := ⟨hS6.1.grown hg7 (by simp; omega), hS6.2.1.grown hg7 (by simp; omega), hS6.2.2.grown hg7 (by simp)⟩
    refine ⟨hS7, ?_⟩
    refine held_assign 6 (some 7) (by kernel_rfl) rfl rfl _ rfl rfl (.int .i64 (cmpI ((2 * (n * 2 ^ J % m) + 0 : Nat) : Int) ((m : Nat) : Int))) rfl hS7 ?_
    simp only [Act.put, List.setIfInBounds_toArray, List.set_cons_zero, List.set_cons_succ]
    refine wpAnyH_done (by kernel_rfl) ?_ _
    refine NoPanic.normal ?_
    go_wp2
    refine bodyPost_ret (res_nat_tmp Try.results96 _ _ (w.heap.size + 1 + 1) _ _ _ rfl rfl hN7 l2) rfl ⟨i2, r2, ?_, ?_, hB6.grown hg7 hB6.size (by intro k hk; cases hk; omega)⟩
    · rw [HC.out.2, Nat.add_zero, cmpI_nat]; rfl
    · rw [HC.out.1]; exact HR2.out.1
  · obtain ⟨J, hJ⟩ : ∃ J : Nat, z = (J : Int) := ⟨z.toNat, by omega⟩
    have hK : K = 150 + J := by omega
    have HC : Hid (qk n m K = n / (m * 2 ^ J) ∧ ck n m K = cmpN (2 * (n % (m * 2 ^ J))) (m * 2 ^ J)) := by rw [hK]; exact cut_high n m J
    have HM2 : Hid (m * 2 ^ J ≠ 0) := Nat.mul_ne_zero HM.out (by have := Nat.two_pow_pos J; omega)
    clear hK
    go_enter Try.func96, Try.ntmps96
    generalize hw0 : ((w.alloc (.cells (natC k p) 43)).alloc (.cells (natC j q) 43)).alloc (.cells (natC 0 zP) 43) = w0 at A B C hB hws
    go_wp2_with fail
    clear hw0
    refine late_begin [4] (fun w' => NatAt w' (w.heap.size + 1) j q) (by kernel_rfl) ?_
    have hS : NatAt w0.drew (w.heap.size + 1) j q := B
    refine late_val 0 (some 17) rfl rfl (by kernel_rfl) (by kernel_rfl) (by kernel_rfl) [3, 4] (by kernel_rfl) noPanic_put rfl (.agg (natC j q)) (fun _ h => run_nat0 _ rfl (w.heap.size + 1) rfl j q lq h) hS ?_
    simp only [Act.put, List.setIfInBounds_toArray, List.set_cons_zero, List.set_cons_succ]
    refine late_val 1 (some 18) rfl rfl (by kernel_rfl) (by kernel_rfl) (by kernel_rfl) [2, 3, 4] (by kernel_rfl) noPanic_put rfl (.int .i64 z) (fun _ _ => by go_simp) hS ?_
    simp only [Act.put, List.setIfInBounds_toArray, List.set_cons_zero, List.set_cons_succ]
    refine late_call 2 (some 19) (by kernel_rfl) rfl rfl rfl 72 #[.int .i64 z] (by go_simp) _ (twoTo_any J z w0.drew hJ (by omega)) ?_
    rintro e wa ⟨ia, ra, rfl, hRa, hWa⟩
    have hsa : w0.heap.size ≤ wa.heap.size := hWa.size
    have hSa : NatAt wa (w.heap.size + 1) j q := hS.below hWa (by show _ < w0.heap.size; omega)
    have hia : ia ≤ 100 := hRa.fits.2 (two_lt J (by omega))
    refine ⟨_, rfl, .inr hSa, ?_⟩
    simp only [Act.put, List.setIfInBounds_toArray, List.set_cons_zero, List.set_cons_succ]
    refine late_call 3 (some 20) (by kernel_rfl) rfl rfl rfl 77 #[.agg (natC j q), .agg (natC ia ra)] (by go_simp) _ (times_any wa HP.out.2 hRa hj hia) ?_
    rintro e wb ⟨ib, rb, rfl, hRb, hWb⟩
    have hsb : wa.heap.size ≤ wb.heap.size := hWb.size
    have hSb : NatAt wb (w.heap.size + 1) j q := hSa.below hWb (by omega)
    have lb := hRb.len
    have hjb : 0 < ib := Nat.pos_of_ne_zero (fun h => HM2.out (hRb.zero_iff.1 h))
    have HRb := hide hRb
    refine ⟨_, rfl, .inr hSb, ?_⟩
    simp only [Act.put, List.setIfInBounds_toArray, List.set_cons_zero, List.set_cons_succ]
    refine late_store 4 (by kernel_rfl) rfl rfl _ _ rfl rfl (w.heap.size + 1) ib rb rfl rfl j q hSb lq lb ?_
    intro w1 hN1 hg1 hs1
    refine ⟨.inl ⟨4, by simp, rfl⟩, ?_⟩
    refine late_done (by kernel_rfl) ?_ _
    refine NoPanic.normal ?_
    have B1 : NatAt w1 (w.heap.size + 1) ib rb := hN1
    have A1 : NatAt w1 w.heap.size k p := ((NatAt.below (w := w0.drew) A hWa (by show _ < w0.heap.size; omega)).below hWb (by omega)).grown hg1 (by simp)
    have C1 : NatAt w1 (w.heap.size + 1 + 1) 0 zP := ((NatAt.below (w := w0.drew) C hWa (by show _ < w0.heap.size; omega)).below hWb (by omega)).grown hg1 (by simp)
    have hBb : Below w.heap.size w wb := (hB.drew.trans (hWa.mono (by show _ ≤ w0.heap.size; omega))).trans (hWb.mono (by omega))
    have hB1 : Below w.heap.size w w1 := hBb.grown hg1 hBb.size (by intro k hk; cases hk; omega)
    have hs1' : w.heap.size + 1 + 1 + 1 ≤ w1.heap.size := by omega
    clear hS hSa hSb A B C hB hWa hWb hRa hRb hN1 hg1 hBb hs1 hsa hsb hws
    go_wp2_with (first | (refine load_nat rfl (.tmp 3) rfl w.heap.size rfl k p A1 lp ?_) | (refine load_nat rfl (.tmp 4) rfl (w.heap.size + 1) rfl ib rb B1 lb ?_))
    refine (divide_any w1 HP.out.1 HRb.out hjb (by omega)).mono ?_
    rintro e w2 ⟨i2, i3, r2, r3, rfl, hR2, hR3, hW2⟩
    have l2 := hR2.len
    have l3 := hR3.len
    have hi3 : i3 ≤ 200 := Nat.le_trans (hR3.cnt_le' HP.out.1 (Nat.mod_le _ _)) (by omega)
    have HR2 := hide (And.intro hR2 hR3)
    have hs2 := hW2.size
    have B2 : NatAt w2 (w.heap.size + 1) ib rb := B1.below hW2 (by omega)
    have C2 : NatAt w2 (w.heap.size + 1 + 1) 0 zP := C1.below hW2 (by omega)
    have hB2 : Below w.heap.size w w2 := hB1.trans (hW2.mono (by omega))
    have D2 := (NatAt.new w2 0 zP).old (.cells (natC 0 zP) 43)
    have E2 := NatAt.new (w2.alloc (.cells (natC 0 zP) 43)) 0 zP
    simp only [World.size_alloc] at E2
    clear A1 B1 C1 hB1 hW2 hR2 hR3
    go_wp2_with (first | (refine store_nat rfl (.tmp 8) _ rfl rfl w2.heap.size i2 r2 rfl rfl 0 zP D2 zP_len l2 ?_; intro w3 hN3 hg3 hs3) | (refine store_nat rfl (.tmp 9) _ rfl rfl (w2.heap.size + 1) i3 r3 rfl rfl 0 zP (E2.grown hg3 (by simp)) zP_len l3 ?_; intro w4 hN4 hg4 hs4))
    have B4 : NatAt w4 (w.heap.size + 1) ib rb := (((B2.old _).old _).grown hg3 (by simp; omega)).grown hg4 (by simp; omega)
    have C4 : NatAt w4 (w.heap.size + 1 + 1) 0 zP := (((C2.old _).old _).grown hg3 (by simp; omega)).grown hg4 (by simp; omega)
    have D4 : NatAt w4 w2.heap.size i2 r2 := hN3.grown hg4 (by simp)
    have hB3 : Below w.heap.size w w3 := ((hB2.alloc hB2.size _).alloc (by simp; have := hB2.size; omega) _).grown hg3 (by simp; have := hB2.size; omega) (by intro k hk; cases hk; have := hB2.size; omega)
    have hB4 : Below w.heap.size w w4 := hB3.grown hg4 hB3.size (by intro k hk; cases hk; omega)
    have hs4' : w2.heap.size + 1 + 1 ≤ w4.heap.size := by rw [hs4, hs3]; simp
    clear B2 C2 hB2 D2 E2 hg3 hg4 hs3 hs4 hN3 hB3
    refine held_begin (fun w' => NatAt w' w2.heap.size i2 r2 ∧ NatAt w' (w2.heap.size + 1) i3 r3 ∧ NatAt w' (w.heap.size + 1) ib rb) (by kernel_rfl) ?_
    have hS : NatAt w4.drew w2.heap.size i2 r2 ∧ NatAt w4.drew (w2.heap.size + 1) i3 r3 ∧ NatAt w4.drew (w.heap.size + 1) ib rb := ⟨D4, hN4, B4⟩
    refine held_load 0 (some 27) rfl rfl (by kernel_rfl) (by kernel_rfl) (by kernel_rfl) noPanic_put rfl _ rfl (w2.heap.size) rfl i2 r2 (fun _ h => h.1) l2 hS ?_
    simp only [Act.put, List.setIfInBounds_toArray, List.set_cons_zero, List.set_cons_succ]
    refine held_load 1 (some 28) rfl rfl (by kernel_rfl) (by kernel_rfl) (by kernel_rfl) noPanic_put rfl _ rfl (w2.heap.size + 1) rfl i3 r3 (fun _ h => h.2.1) l3 hS ?_
    simp only [Act.put, List.setIfInBounds_toArray, List.set_cons_zero, List.set_cons_succ]
    refine held_load 3 (some 30) rfl rfl (by kernel_rfl) (by kernel_rfl) (by kernel_rfl) noPanic_put rfl _ rfl (w.heap.size + 1) rfl ib rb (fun _ h => h.2.2) lb hS ?_
    simp only [Act.put, List.setIfInBounds_toArray, List.set_cons_zero, List.set_cons_succ]
    refine held_call 2 (some 29) (by kernel_rfl) rfl rfl rfl 101 #[.agg (natC i3 r3), .int .i64 2, .int .i64 0] (by go_simp) _ (timesWide_any 2 0 w4.drew 2 0 HR2.out.2 hi3 rfl rfl (by omega) (by omega) (by omega) (by omega)) ?_
    rintro e w5 ⟨i5, r5, rfl, hR5, hW5⟩
    have hs5 : w4.heap.size ≤ w5.heap.size := hW5.size
    have hS5 : NatAt w5 w2.heap.size i2 r2 ∧ NatAt w5 (w2.heap.size + 1) i3 r3 ∧ NatAt w5 (w.heap.size + 1) ib rb := ⟨hS.1.below hW5 (by show _ < w4.heap.size; omega), hS.2.1.below hW5 (by show _ < w4.heap.size; omega), hS.2.2.below hW5 (by show _ < w4.heap.size; omega)⟩
    have C5 : NatAt w5 (w.heap.size + 1 + 1) 0 zP := NatAt.below (w := w4.drew) C4 hW5 (by show _ < w4.heap.size; omega)
    have hB5 : Below w.heap.size w w5 := hB4.drew.trans (hW5.mono (by show _ ≤ w4.heap.size; omega))
    refine ⟨_, rfl, hS5, ?_⟩
    simp only [Act.put, List.setIfInBounds_toArray, List.set_cons_zero, List.set_cons_succ]
    refine held_call 4 (some 31) (by kernel_rfl) rfl rfl rfl 97 #[.agg (natC i5 r5), .agg (natC ib rb)] (by go_simp) _ (compare_rep w5 hR5 HRb.out) ?_
    rintro e w6 ⟨rfl, hW6⟩
    have hs6 : w5.heap.size ≤ w6.heap.size := hW6.size
    have hS6 : NatAt w6 w2.heap.size i2 r2 ∧ NatAt w6 (w2.heap.size + 1) i3 r3 ∧ NatAt w6 (w.heap.size + 1) ib rb := ⟨hS5.1.below hW6 (by omega), hS5.2.1.below hW6 (by omega), hS5.2.2.below hW6 (by omega)⟩
    have C6 : NatAt w6 (w.heap.size + 1 + 1) 0 zP := C5.below hW6 (by omega)
    have hB6 : Below w.heap.size w w6 := hB5.trans (hW6.mono (by omega))
    refine ⟨_, rfl, hS6, ?_⟩
    simp only [Act.put, List.setIfInBounds_toArray, List.set_cons_zero, List.set_cons_succ]
    refine held_store 5 (by kernel_rfl) rfl rfl _ _ rfl rfl (w.heap.size + 1 + 1) i2 r2 rfl rfl 0 zP C6 zP_len l2 ?_
    intro w7 hN7 hg7 hs7
    have hS7 : NatAt w7 w2.heap.size i2 r2 ∧ NatAt w7 (w2.heap.size + 1) i3 r3 ∧ NatAt w7 (w.heap.size + 1) ib rb := ⟨hS6.1.grown hg7 (by simp; omega), hS6.2.1.grown hg7 (by simp; omega), hS6.2.2.grown hg7 (by simp)⟩
    refine ⟨hS7, ?_⟩
    refine held_assign 6 (some 7) (by kernel_rfl) rfl rfl _ rfl rfl (.int .i64 (cmpI ((2 * (n % (m * 2 ^ J)) + 0 : Nat) : Int) (((m * 2 ^ J) : Nat) : Int))) rfl hS7 ?_
    simp only [Act.put, List.setIfInBounds_toArray, List.set_cons_zero, List.set_cons_succ]
    refine wpAnyH_done (by kernel_rfl) ?_ _
    refine NoPanic.normal ?_
    go_wp2
    refine bodyPost_ret (res_nat_tmp Try.results96 _ _ (w.heap.size + 1 + 1) _ _ _ rfl rfl hN7 l2) rfl ⟨i2, r2, ?_, ?_, hB6.grown hg7 hB6.size (by intro k hk; cases hk; omega)⟩
    · rw [HC.out.2, Nat.add_zero, cmpI_nat]; rfl
    · rw [HC.out.1]; exact HR2.out.1
end Go.Proofs.Ytoiegaggekgmjaa
