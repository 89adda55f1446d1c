/-
  The texts ImplTwo2, ImplMany, ImplNear, one behind the other.
-/
import Derived.Test.YtoiegaggekgmjaaDoorImplTwo
import Derived.Test.YtoiegaggekgmjaaDoorPkDivideA
import Derived.Test.YtoiegaggekgmjaaDoorRealMath

/-
  What twoTo of impl answers.
-/
namespace Go.Proofs.YtoiegaggekgmjaaDoor
open Go.RowKit
set_option linter.unusedVariables false

theorem shl_exec {o : Oper} {a : Act} {x y : Operand} {t : TypeId} (ho : o.op = .binOp .shl 3 x y 3) (hx : a.eval x = .int .i64 1) {s : Nat} {z : Int} (hy : a.eval y = .int .i64 z) (hz : z = (s : Int)) (hs : s ≤ 19) (w : World) : (execOp a.eval o).run Tryd.prog w = .ok (.value (.int .i64 ((2 ^ s : Nat) : Int))) w := by
  subst hz
  unfold execOp
  simp only [ho, hx, hy]
  have : s = 0 ∨ s = 1 ∨ s = 2 ∨ s = 3 ∨ s = 4 ∨ s = 5 ∨ s = 6 ∨ s = 7 ∨ s = 8 ∨ s = 9 ∨ s = 10 ∨ s = 11 ∨ s = 12 ∨ s = 13 ∨ s = 14 ∨ s = 15 ∨ s = 16 ∨ s = 17 ∨ s = 18 ∨ s = 19 := by omega
  rcases this with rfl | rfl | rfl | rfl | rfl | rfl | rfl | rfl | rfl | rfl | rfl | rfl | rfl | rfl | rfl | rfl | rfl | rfl | rfl | rfl <;> rfl
theorem two_lt_ten (j e : Nat) (hj : j ≤ 2 * e) (he : e ≠ 0) : 2 ^ j < 10 ^ e := by
  have h1 : 2 ^ j ≤ 2 ^ (2 * e) := Nat.pow_le_pow_right (by decide) hj
  rw [Nat.pow_mul] at h1
  exact Nat.lt_of_le_of_lt h1 (Nat.pow_lt_pow_left (by decide) he)
theorem two_lt (j : Nat) (hj : j ≤ 1200) : 2 ^ j < 10 ^ 600 := two_lt_ten j 600 (by omega) (by decide)
theorem two_up {N g T : Nat} (hg : g ≤ N) (hT : T ≤ g) : 2 ^ T * 2 ^ (N - g) + 0 = 2 ^ (N - (g - T)) := by
  rw [Nat.add_zero, ← Nat.pow_add]; congr 1; omega
theorem two_small (T : Nat) (hT : T ≤ 19) : 0 < ((2 ^ T : Nat) : Int) ∧ ((2 ^ T : Nat) : Int) ≤ 1000000 := by
  have h1 : 2 ^ T ≤ 2 ^ 19 := Nat.pow_le_pow_right (by decide) hT
  have h2 : 0 < 2 ^ T := Nat.two_pow_pos T
  have h3 : (2 : Nat) ^ 19 = 524288 := by decide
  omega

set_option maxHeartbeats 2000000 in
set_option maxRecDepth 100000 in
theorem twoTo_any (N : Nat) (z : Int) (w : World) (hz' : z = (N : Int)) (hb : z ≤ 1200) :
    Calls Tryd.prog 49 #[.int .i64 z] w fun e w' => ∃ (i : Nat) (r : List Int), e = .returned (.agg (natC i r)) ∧ Rep (2 ^ N) i r ∧ Below w.heap.size w w' := by
  have hz := zero_nat.1
  have hB : Below w.heap.size w (w.alloc (.cells (natC 0 zP) 33)) := (Below.refl _ _).alloc (Nat.le_refl _) _
  have A := NatAt.new w 0 zP
  subst hz'
  go_enter Tryd.func49, Tryd.ntmps49
  go_wp2_with fail
  refine (natOf_any 1 1 _ rfl (by omega) (by omega)).mono ?_
  rintro e w1 ⟨i1, r1, rfl, hR1, hW1⟩
  have hs1 : w.heap.size + 1 ≤ w1.heap.size := by have := hW1.size; simpa using this
  have A1 : NatAt w1 w.heap.size 0 zP := A.below hW1 (by simp)
  have hB1 : Below w.heap.size w w1 := hB.trans (hW1.mono (by simp))
  have l1 := hR1.len
  have B1 := NatAt.new w1 0 zP
  have HR1 := hide hR1
  clear A hB hW1 hR1
  go_wp2_with (first | (refine store_nat rfl _ _ rfl rfl w1.heap.size i1 r1 rfl rfl 0 zP B1 zP_len l1 ?_; intro w2 hN2 hg2 hs2))
  have A2 : NatAt w2 w.heap.size 0 zP := (A1.old _).grown hg2 (by simp; omega)
  have hB2 : Below w.heap.size w w2 := (hB1.alloc hB1.size _).grown hg2 (by simp; omega) (by intro k hk; cases hk; omega)
  have hs2' : w1.heap.size + 1 ≤ w2.heap.size := by rw [hs2]; simp
  clear A1 hB1 B1 hg2 hs2
  go_loopg [0, 4] N (fun g v0 v4 wr => ∃ (i : Nat) (s : List Int), g ≤ N ∧ v0 = .int .i64 (g : Int) ∧ Hid (Rep (2 ^ (N - g)) i s) ∧ s.length = 204 ∧ NatAt wr w1.heap.size i s ∧ NatAt wr w.heap.size 0 zP ∧ Below w.heap.size w wr ∧ w1.heap.size + 1 ≤ wr.heap.size)
  case atStart => exact ⟨i1, r1, Nat.le_refl _, rfl, by unfold Hid; rw [Nat.sub_self]; exact HR1.out, l1, hN2, A2, hB2, hs2'⟩
  case round =>
    obtain ⟨i, s, hg, rfl, HR, ls, hN, hA, hW, hsr⟩ := hrel
    clear hN2 A2 hB2 hs2' HR1
    by_cases h0 : 0 < (gk : Int)
    · have hi : i ≤ 200 := by
        have := HR.out.fits.2 (two_lt (N - gk) (by omega))
        omega
      by_cases h19 : (19 : Int) < (gk : Int)
      · go_wp2_with fail
        refine late_begin [4] (fun w' => NatAt w' w1.heap.size i s) (by kernel_rfl) ?_
        have hS : NatAt wr.drew w1.heap.size i s := hN
        refine late_val 0 (some 10) rfl rfl (by kernel_rfl) (by kernel_rfl) (by kernel_rfl) [3, 4] (by kernel_rfl) noPanic_put rfl (.agg (natC i s)) (fun _ h => run_nat0 _ rfl w1.heap.size rfl i s ls h) hS ?_
        simp only [Act.put, List.setIfInBounds_toArray, List.set_cons_zero, List.set_cons_succ]
        refine late_val 1 (some 11) rfl rfl (by kernel_rfl) (by kernel_rfl) (by kernel_rfl) [2, 3, 4] (by kernel_rfl) noPanic_put rfl (.int .i64 19) (fun _ _ => by go_simp) hS ?_
        simp only [Act.put, List.setIfInBounds_toArray, List.set_cons_zero, List.set_cons_succ]
        refine late_val 2 (some 12) rfl rfl (by kernel_rfl) (by kernel_rfl) (by kernel_rfl) [3, 4] (by kernel_rfl) noPanic_put rfl (.int .i64 ((2 ^ 19 : Nat) : Int)) (fun w' _ => shl_exec (t := 3) (s := 19) rfl rfl (z := 19) rfl (by omega) (by omega) w') hS ?_
        simp only [Act.put, List.setIfInBounds_toArray, List.set_cons_zero, List.set_cons_succ]
        refine late_call 3 (some 13) (by kernel_rfl) rfl rfl rfl 43 #[.agg (natC i s), .int .i64 ((2 ^ 19 : Nat) : Int), .int .i64 0] (by go_simp) _ (timesWide_any ((2 ^ 19 : Nat) : Int) 0 wr.drew (2 ^ 19) 0 HR.out hi rfl rfl (two_small 19 (by omega)).1 (two_small 19 (by omega)).2 (by omega) (by omega)) ?_
        rintro e w3 ⟨j, r, rfl, hR3, hW3⟩
        have hs3 : wr.heap.size ≤ w3.heap.size := hW3.size
        have hS3 : NatAt w3 w1.heap.size i s := hS.below hW3 (by show _ < wr.heap.size; omega)
        have A3 : NatAt w3 w.heap.size 0 zP := (NatAt.below (w := wr.drew) hA hW3 (by show _ < wr.heap.size; omega))
        have hB3 : Below w.heap.size w w3 := hW.drew.trans (hW3.mono (by show _ ≤ wr.heap.size; omega))
        have l3 := hR3.len
        refine ⟨_, rfl, .inr hS3, ?_⟩
        simp only [Act.put, List.setIfInBounds_toArray, List.set_cons_zero, List.set_cons_succ]
        refine late_store 4 (by kernel_rfl) rfl rfl _ _ rfl rfl w1.heap.size j r rfl rfl i s hS3 ls l3 ?_
        intro w4 hN4 hg4 hs4
        refine ⟨.inl ⟨4, by simp, rfl⟩, ?_⟩
        refine late_done (by kernel_rfl) ?_ _
        refine NoPanic.normal ?_
        have A4 : NatAt w4 w.heap.size 0 zP := A3.grown hg4 (by simp; omega)
        have hB4 : Below w.heap.size w w4 := hB3.grown hg4 hB3.size (by intro k hk; cases hk; omega)
        have hs4' : w1.heap.size + 1 ≤ w4.heap.size := by omega
        have HR4 : Hid (Rep (2 ^ (N - (gk - 19))) j r) := by unfold Hid; rw [← two_up hg (by omega)]; exact hR3
        clear hS hS3 A3 hB3 hW3 hg4 hR3 hN hA hW hs4 hs3
        go_wp2
        go_roundg (gk - 19)
        case measure => omega
        case rel => exact ⟨j, r, by omega, by go_num, HR4, l3, hN4, A4, hB4, hs4'⟩
      · go_wp2_with fail
        refine late_begin [4] (fun w' => NatAt w' w1.heap.size i s) (by kernel_rfl) ?_
        have hS : NatAt wr.drew w1.heap.size i s := hN
        refine late_val 0 (some 10) rfl rfl (by kernel_rfl) (by kernel_rfl) (by kernel_rfl) [3, 4] (by kernel_rfl) noPanic_put rfl (.agg (natC i s)) (fun _ h => run_nat0 _ rfl w1.heap.size rfl i s ls h) hS ?_
        simp only [Act.put, List.setIfInBounds_toArray, List.set_cons_zero, List.set_cons_succ]
        refine late_val 1 (some 11) rfl rfl (by kernel_rfl) (by kernel_rfl) (by kernel_rfl) [2, 3, 4] (by kernel_rfl) noPanic_put rfl (.int .i64 (gk : Int)) (fun _ _ => by go_simp) hS ?_
        simp only [Act.put, List.setIfInBounds_toArray, List.set_cons_zero, List.set_cons_succ]
        refine late_val 2 (some 12) rfl rfl (by kernel_rfl) (by kernel_rfl) (by kernel_rfl) [3, 4] (by kernel_rfl) noPanic_put rfl (.int .i64 ((2 ^ gk : Nat) : Int)) (fun w' _ => shl_exec (t := 3) (s := gk) rfl rfl (z := (gk : Int)) rfl (by omega) (by omega) w') hS ?_
        simp only [Act.put, List.setIfInBounds_toArray, List.set_cons_zero, List.set_cons_succ]
        refine late_call 3 (some 13) (by kernel_rfl) rfl rfl rfl 43 #[.agg (natC i s), .int .i64 ((2 ^ gk : Nat) : Int), .int .i64 0] (by go_simp) _ (timesWide_any ((2 ^ gk : Nat) : Int) 0 wr.drew (2 ^ gk) 0 HR.out hi rfl rfl (two_small gk (by omega)).1 (two_small gk (by omega)).2 (by omega) (by omega)) ?_
        rintro e w3 ⟨j, r, rfl, hR3, hW3⟩
        have hs3 : wr.heap.size ≤ w3.heap.size := hW3.size
        have hS3 : NatAt w3 w1.heap.size i s := hS.below hW3 (by show _ < wr.heap.size; omega)
        have A3 : NatAt w3 w.heap.size 0 zP := (NatAt.below (w := wr.drew) hA hW3 (by show _ < wr.heap.size; omega))
        have hB3 : Below w.heap.size w w3 := hW.drew.trans (hW3.mono (by show _ ≤ wr.heap.size; omega))
        have l3 := hR3.len
        refine ⟨_, rfl, .inr hS3, ?_⟩
        simp only [Act.put, List.setIfInBounds_toArray, List.set_cons_zero, List.set_cons_succ]
        refine late_store 4 (by kernel_rfl) rfl rfl _ _ rfl rfl w1.heap.size j r rfl rfl i s hS3 ls l3 ?_
        intro w4 hN4 hg4 hs4
        refine ⟨.inl ⟨4, by simp, rfl⟩, ?_⟩
        refine late_done (by kernel_rfl) ?_ _
        refine NoPanic.normal ?_
        have A4 : NatAt w4 w.heap.size 0 zP := A3.grown hg4 (by simp; omega)
        have hB4 : Below w.heap.size w w4 := hB3.grown hg4 hB3.size (by intro k hk; cases hk; omega)
        have hs4' : w1.heap.size + 1 ≤ w4.heap.size := by omega
        have HR4 : Hid (Rep (2 ^ (N - (gk - gk))) j r) := by unfold Hid; rw [← two_up hg (by omega)]; exact hR3
        clear hS hS3 A3 hB3 hW3 hg4 hR3 hN hA hW hs4 hs3
        go_wp2
        go_roundg (gk - gk)
        case measure => omega
        case rel => exact ⟨j, r, by omega, by go_num, HR4, l3, hN4, A4, hB4, hs4'⟩
    · have hg0 : gk = 0 := by omega
      subst hg0
      go_wp2_with (first | (refine load_nat rfl _ rfl w1.heap.size rfl i s hN ls ?_) | (refine store_nat rfl _ _ rfl rfl w.heap.size i s rfl rfl 0 zP hA zP_len ls ?_; intro w3 hN3 hg3 hs3))
      refine bodyPost_ret (v := .agg (natC i s)) (res_nat Tryd.results49 _ _ w.heap.size _ _ rfl hN3 ls) rfl ⟨i, s, rfl, HR.out, ?_⟩
      exact hW.grown hg3 hW.size (by intro k hk; cases hk; omega)
end Go.Proofs.YtoiegaggekgmjaaDoor

/-
  What manyTwos of impl answers.
-/
namespace Go.Proofs.YtoiegaggekgmjaaDoor
open Go.RowKit
set_option linter.unusedVariables false

theorem cmpI_nat (a b : Nat) : cmpI (a : Int) (b : Int) = cmpN a b := by
  unfold cmpI cmpN
  by_cases h1 : a < b
  · rw [if_pos h1, if_pos (by omega)]
  · by_cases h2 : a = b
    · rw [if_neg h1, if_pos h2, if_neg (by omega), if_neg (by omega)]
    · rw [if_neg h1, if_neg h2, if_neg (by omega), if_pos (by omega)]
theorem Rep.cnt_le' {n k m j : Nat} {p q : List Int} (h : Rep n k p) (g : Rep m j q) (hle : n ≤ m) : k ≤ j := by
  rcases Nat.lt_or_ge j k with h1 | h1
  · have := g.cnt_lt h h1
    omega
  · exact h1

set_option maxHeartbeats 4000000 in
set_option maxRecDepth 100000 in
theorem manyTwos_any {n m k j K : Nat} {p q : List Int} (z : Int) (w : World) (hP : Rep n k p) (hQ : Rep m j q) (hk : k ≤ 100) (hj : j ≤ 100) (hm : m ≠ 0) (hz' : z + 150 = (K : Int)) (hb : z ≤ 1000) :
    Calls Tryd.prog 27 #[.agg (natC k p), .agg (natC j q), .int .i64 z] w fun e w' => ∃ (i : Nat) (r : List Int), e = .returned (.tuple #[.agg (natC i r), .int .i64 (ck n m K)]) ∧ Rep (qk n m K) i r ∧ Below w.heap.size w w' := by
  have hz := zero_nat.1
  have lp := hP.len
  have lq := hQ.len
  have A := ((NatAt.new w k p).old (.cells (natC j q) 33)).old (.cells (natC 0 zP) 33)
  have B := (NatAt.new (w.alloc (.cells (natC k p) 33)) j q).old (.cells (natC 0 zP) 33)
  have C := NatAt.new ((w.alloc (.cells (natC k p) 33)).alloc (.cells (natC j q) 33)) 0 zP
  have hB : Below w.heap.size w (((w.alloc (.cells (natC k p) 33)).alloc (.cells (natC j q) 33)).alloc (.cells (natC 0 zP) 33)) := (((Below.refl _ _).alloc (Nat.le_refl _) _).alloc (by simp) _).alloc (by simp; omega) _
  have hws : (((w.alloc (.cells (natC k p) 33)).alloc (.cells (natC j q) 33)).alloc (.cells (natC 0 zP) 33)).heap.size = w.heap.size + 1 + 1 + 1 := by simp
  simp only [World.size_alloc] at B C
  have HP := hide (And.intro hP hQ)
  have HM := hide hm
  clear hP hQ hm
  by_cases hneg : z < 0
  · obtain ⟨J, hJ⟩ : ∃ J : Nat, -z = (J : Int) := ⟨(-z).toNat, by omega⟩
    have hK : K = 150 - J := by omega
    have hJ150 : J ≤ 150 := by omega
    have hwJ : IntKind.i64.wrap (J : Int) = (J : Int) := by rw [IntKind.wrap_i64]; omega
    have HC : Hid (qk n m K = n * 2 ^ J / m ∧ ck n m K = cmpN (2 * (n * 2 ^ J % m)) m) := by rw [hK]; exact cut_low n m J hJ150
    have hjb : 0 < j := Nat.pos_of_ne_zero (fun h => HM.out (HP.out.2.zero_iff.1 h))
    clear hK
    go_enter Tryd.func27, Tryd.ntmps27
    generalize hw0 : ((w.alloc (.cells (natC k p) 33)).alloc (.cells (natC j q) 33)).alloc (.cells (natC 0 zP) 33) = w0 at A B C hB hws
    go_wp2_with fail
    clear hw0
    refine late_begin [5] (fun w' => NatAt w' w.heap.size k p) (by kernel_rfl) ?_
    have hS : NatAt w0.drew w.heap.size k p := A
    refine late_val 0 (some 12) rfl rfl (by kernel_rfl) (by kernel_rfl) (by kernel_rfl) [4, 5] (by kernel_rfl) noPanic_put rfl (.agg (natC k p)) (fun _ h => run_nat0 _ rfl w.heap.size rfl k p lp h) hS ?_
    simp only [Act.put, List.setIfInBounds_toArray, List.set_cons_zero, List.set_cons_succ]
    refine late_val 1 (some 13) rfl rfl (by kernel_rfl) (by kernel_rfl) (by kernel_rfl) [2, 3, 4, 5] (by kernel_rfl) noPanic_put rfl (.int .i64 z) (fun _ _ => by go_simp) hS ?_
    simp only [Act.put, List.setIfInBounds_toArray, List.set_cons_zero, List.set_cons_succ]
    refine late_val 2 (some 14) rfl rfl (by kernel_rfl) (by kernel_rfl) (by kernel_rfl) [3, 4, 5] (by kernel_rfl) noPanic_put rfl (.int .i64 (-z)) (fun _ _ => by go_simp) hS ?_
    simp only [Act.put, List.setIfInBounds_toArray, List.set_cons_zero, List.set_cons_succ]
    refine late_call 3 (some 15) (by kernel_rfl) rfl rfl rfl 49 #[.int .i64 (-z)] (by go_simp) _ (twoTo_any J (-z) w0.drew hJ (by omega)) ?_
    rintro e wa ⟨ia, ra, rfl, hRa, hWa⟩
    have hsa : w0.heap.size ≤ wa.heap.size := hWa.size
    have hSa : NatAt wa w.heap.size k p := hS.below hWa (by show _ < w0.heap.size; omega)
    have hia : ia ≤ 100 := hRa.fits.2 (two_lt J (by omega))
    refine ⟨_, rfl, .inr hSa, ?_⟩
    simp only [Act.put, List.setIfInBounds_toArray, List.set_cons_zero, List.set_cons_succ]
    refine late_call 4 (some 16) (by kernel_rfl) rfl rfl rfl 48 #[.agg (natC k p), .agg (natC ia ra)] (by go_simp) _ (times_any wa HP.out.1 hRa hk hia) ?_
    rintro e wb ⟨ib, rb, rfl, hRb, hWb⟩
    have hsb : wa.heap.size ≤ wb.heap.size := hWb.size
    have hSb : NatAt wb w.heap.size k p := hSa.below hWb (by omega)
    have hib : ib ≤ 200 := Nat.le_trans (HP.out.1.mul_used hRa hRb) (by omega)
    have lb := hRb.len
    have HRb := hide hRb
    refine ⟨_, rfl, .inr hSb, ?_⟩
    simp only [Act.put, List.setIfInBounds_toArray, List.set_cons_zero, List.set_cons_succ]
    refine late_store 5 (by kernel_rfl) rfl rfl _ _ rfl rfl w.heap.size ib rb rfl rfl k p hSb lp lb ?_
    intro w1 hN1 hg1 hs1
    refine ⟨.inl ⟨5, by simp, rfl⟩, ?_⟩
    refine late_done (by kernel_rfl) ?_ _
    refine NoPanic.normal ?_
    have A1 : NatAt w1 w.heap.size ib rb := hN1
    have B1 : NatAt w1 (w.heap.size + 1) j q := ((NatAt.below (w := w0.drew) B hWa (by show _ < w0.heap.size; omega)).below hWb (by omega)).grown hg1 (by simp)
    have C1 : NatAt w1 (w.heap.size + 1 + 1) 0 zP := ((NatAt.below (w := w0.drew) C hWa (by show _ < w0.heap.size; omega)).below hWb (by omega)).grown hg1 (by simp; omega)
    have hBb : Below w.heap.size w wb := (hB.drew.trans (hWa.mono (by show _ ≤ w0.heap.size; omega))).trans (hWb.mono (by omega))
    have hB1 : Below w.heap.size w w1 := hBb.grown hg1 hBb.size (by intro k hk; cases hk; omega)
    have hs1' : w.heap.size + 1 + 1 + 1 ≤ w1.heap.size := by omega
    clear hS hSa hSb A B C hB hWa hWb hRa hRb hN1 hg1 hBb hs1 hsa hsb hws
    go_wp2_with (first | (refine load_nat rfl (.tmp 3) rfl w.heap.size rfl ib rb A1 lb ?_) | (refine load_nat rfl (.tmp 4) rfl (w.heap.size + 1) rfl j q B1 lq ?_))
    refine (divide_any w1 HRb.out HP.out.2 hjb (by omega)).mono ?_
    rintro e w2 ⟨i2, i3, r2, r3, rfl, hR2, hR3, hW2⟩
    have l2 := hR2.len
    have l3 := hR3.len
    have hi3 : i3 ≤ 200 := Nat.le_trans (hR3.cnt_le' HRb.out (Nat.mod_le _ _)) (by omega)
    have HR2 := hide (And.intro hR2 hR3)
    have hs2 := hW2.size
    have B2 : NatAt w2 (w.heap.size + 1) j q := B1.below hW2 (by omega)
    have C2 : NatAt w2 (w.heap.size + 1 + 1) 0 zP := C1.below hW2 (by omega)
    have hB2 : Below w.heap.size w w2 := hB1.trans (hW2.mono (by omega))
    have D2 := (NatAt.new w2 0 zP).old (.cells (natC 0 zP) 33)
    have E2 := NatAt.new (w2.alloc (.cells (natC 0 zP) 33)) 0 zP
    simp only [World.size_alloc] at E2
    clear A1 B1 C1 hB1 hW2 hR2 hR3
    go_wp2_with (first | (refine store_nat rfl (.tmp 8) _ rfl rfl w2.heap.size i2 r2 rfl rfl 0 zP D2 zP_len l2 ?_; intro w3 hN3 hg3 hs3) | (refine store_nat rfl (.tmp 9) _ rfl rfl (w2.heap.size + 1) i3 r3 rfl rfl 0 zP (E2.grown hg3 (by simp)) zP_len l3 ?_; intro w4 hN4 hg4 hs4))
    have B4 : NatAt w4 (w.heap.size + 1) j q := (((B2.old _).old _).grown hg3 (by simp; omega)).grown hg4 (by simp; omega)
    have C4 : NatAt w4 (w.heap.size + 1 + 1) 0 zP := (((C2.old _).old _).grown hg3 (by simp; omega)).grown hg4 (by simp; omega)
    have D4 : NatAt w4 w2.heap.size i2 r2 := hN3.grown hg4 (by simp)
    have hB3 : Below w.heap.size w w3 := ((hB2.alloc hB2.size _).alloc (by simp; have := hB2.size; omega) _).grown hg3 (by simp; have := hB2.size; omega) (by intro k hk; cases hk; have := hB2.size; omega)
    have hB4 : Below w.heap.size w w4 := hB3.grown hg4 hB3.size (by intro k hk; cases hk; omega)
    have hs4' : w2.heap.size + 1 + 1 ≤ w4.heap.size := by rw [hs4, hs3]; simp
    clear B2 C2 hB2 D2 E2 hg3 hg4 hs3 hs4 hN3 hB3
    refine held_begin (fun w' => NatAt w' w2.heap.size i2 r2 ∧ NatAt w' (w2.heap.size + 1) i3 r3 ∧ NatAt w' (w.heap.size + 1) j q) (by kernel_rfl) ?_
    have hS : NatAt w4.drew w2.heap.size i2 r2 ∧ NatAt w4.drew (w2.heap.size + 1) i3 r3 ∧ NatAt w4.drew (w.heap.size + 1) j q := ⟨D4, hN4, B4⟩
    refine held_load 0 (some 27) rfl rfl (by kernel_rfl) (by kernel_rfl) (by kernel_rfl) noPanic_put rfl _ rfl (w2.heap.size) rfl i2 r2 (fun _ h => h.1) l2 hS ?_
    simp only [Act.put, List.setIfInBounds_toArray, List.set_cons_zero, List.set_cons_succ]
    refine held_load 1 (some 28) rfl rfl (by kernel_rfl) (by kernel_rfl) (by kernel_rfl) noPanic_put rfl _ rfl (w2.heap.size + 1) rfl i3 r3 (fun _ h => h.2.1) l3 hS ?_
    simp only [Act.put, List.setIfInBounds_toArray, List.set_cons_zero, List.set_cons_succ]
    refine held_load 3 (some 30) rfl rfl (by kernel_rfl) (by kernel_rfl) (by kernel_rfl) noPanic_put rfl _ rfl (w.heap.size + 1) rfl j q (fun _ h => h.2.2) lq hS ?_
    simp only [Act.put, List.setIfInBounds_toArray, List.set_cons_zero, List.set_cons_succ]
    refine held_call 2 (some 29) (by kernel_rfl) rfl rfl rfl 43 #[.agg (natC i3 r3), .int .i64 2, .int .i64 0] (by go_simp) _ (timesWide_any 2 0 w4.drew 2 0 HR2.out.2 hi3 rfl rfl (by omega) (by omega) (by omega) (by omega)) ?_
    rintro e w5 ⟨i5, r5, rfl, hR5, hW5⟩
    have hs5 : w4.heap.size ≤ w5.heap.size := hW5.size
    have hS5 : NatAt w5 w2.heap.size i2 r2 ∧ NatAt w5 (w2.heap.size + 1) i3 r3 ∧ NatAt w5 (w.heap.size + 1) j q := ⟨hS.1.below hW5 (by show _ < w4.heap.size; omega), hS.2.1.below hW5 (by show _ < w4.heap.size; omega), hS.2.2.below hW5 (by show _ < w4.heap.size; omega)⟩
    have C5 : NatAt w5 (w.heap.size + 1 + 1) 0 zP := NatAt.below (w := w4.drew) C4 hW5 (by show _ < w4.heap.size; omega)
    have hB5 : Below w.heap.size w w5 := hB4.drew.trans (hW5.mono (by show _ ≤ w4.heap.size; omega))
    refine ⟨_, rfl, hS5, ?_⟩
    simp only [Act.put, List.setIfInBounds_toArray, List.set_cons_zero, List.set_cons_succ]
    refine held_call 4 (some 31) (by kernel_rfl) rfl rfl rfl 28 #[.agg (natC i5 r5), .agg (natC j q)] (by go_simp) _ (compare_rep w5 hR5 HP.out.2) ?_
    rintro e w6 ⟨rfl, hW6⟩
    have hs6 : w5.heap.size ≤ w6.heap.size := hW6.size
    have hS6 : NatAt w6 w2.heap.size i2 r2 ∧ NatAt w6 (w2.heap.size + 1) i3 r3 ∧ NatAt w6 (w.heap.size + 1) j q := ⟨hS5.1.below hW6 (by omega), hS5.2.1.below hW6 (by omega), hS5.2.2.below hW6 (by omega)⟩
    have C6 : NatAt w6 (w.heap.size + 1 + 1) 0 zP := C5.below hW6 (by omega)
    have hB6 : Below w.heap.size w w6 := hB5.trans (hW6.mono (by omega))
    refine ⟨_, rfl, hS6, ?_⟩
    simp only [Act.put, List.setIfInBounds_toArray, List.set_cons_zero, List.set_cons_succ]
    refine held_store 5 (by kernel_rfl) rfl rfl _ _ rfl rfl (w.heap.size + 1 + 1) i2 r2 rfl rfl 0 zP C6 zP_len l2 ?_
    intro w7 hN7 hg7 hs7
    have hS7 : NatAt w7 w2.heap.size i2 r2 ∧ NatAt w7 (w2.heap.size + 1) i3 r3 ∧ NatAt w7 (w.heap.size + 1) j q := ⟨hS6.1.grown hg7 (by simp; omega), hS6.2.1.grown hg7 (by simp; omega), hS6.2.2.grown hg7 (by simp)⟩
    refine ⟨hS7, ?_⟩
    refine held_assign 6 (some 7) (by kernel_rfl) rfl rfl _ rfl rfl (.int .i64 (cmpI ((2 * (n * 2 ^ J % m) + 0 : Nat) : Int) ((m : Nat) : Int))) rfl hS7 ?_
    simp only [Act.put, List.setIfInBounds_toArray, List.set_cons_zero, List.set_cons_succ]
    refine wpAnyH_done (by kernel_rfl) ?_ _
    refine NoPanic.normal ?_
    go_wp2
    refine bodyPost_ret (res_nat_tmp Tryd.results27 _ _ (w.heap.size + 1 + 1) _ _ _ rfl rfl hN7 l2) rfl ⟨i2, r2, ?_, ?_, hB6.grown hg7 hB6.size (by intro k hk; cases hk; omega)⟩
    · rw [HC.out.2, Nat.add_zero, cmpI_nat]; rfl
    · rw [HC.out.1]; exact HR2.out.1
  · obtain ⟨J, hJ⟩ : ∃ J : Nat, z = (J : Int) := ⟨z.toNat, by omega⟩
    have hK : K = 150 + J := by omega
    have HC : Hid (qk n m K = n / (m * 2 ^ J) ∧ ck n m K = cmpN (2 * (n % (m * 2 ^ J))) (m * 2 ^ J)) := by rw [hK]; exact cut_high n m J
    have HM2 : Hid (m * 2 ^ J ≠ 0) := Nat.mul_ne_zero HM.out (by have := Nat.two_pow_pos J; omega)
    clear hK
    go_enter Tryd.func27, Tryd.ntmps27
    generalize hw0 : ((w.alloc (.cells (natC k p) 33)).alloc (.cells (natC j q) 33)).alloc (.cells (natC 0 zP) 33) = w0 at A B C hB hws
    go_wp2_with fail
    clear hw0
    refine late_begin [4] (fun w' => NatAt w' (w.heap.size + 1) j q) (by kernel_rfl) ?_
    have hS : NatAt w0.drew (w.heap.size + 1) j q := B
    refine late_val 0 (some 17) rfl rfl (by kernel_rfl) (by kernel_rfl) (by kernel_rfl) [3, 4] (by kernel_rfl) noPanic_put rfl (.agg (natC j q)) (fun _ h => run_nat0 _ rfl (w.heap.size + 1) rfl j q lq h) hS ?_
    simp only [Act.put, List.setIfInBounds_toArray, List.set_cons_zero, List.set_cons_succ]
    refine late_val 1 (some 18) rfl rfl (by kernel_rfl) (by kernel_rfl) (by kernel_rfl) [2, 3, 4] (by kernel_rfl) noPanic_put rfl (.int .i64 z) (fun _ _ => by go_simp) hS ?_
    simp only [Act.put, List.setIfInBounds_toArray, List.set_cons_zero, List.set_cons_succ]
    refine late_call 2 (some 19) (by kernel_rfl) rfl rfl rfl 49 #[.int .i64 z] (by go_simp) _ (twoTo_any J z w0.drew hJ (by omega)) ?_
    rintro e wa ⟨ia, ra, rfl, hRa, hWa⟩
    have hsa : w0.heap.size ≤ wa.heap.size := hWa.size
    have hSa : NatAt wa (w.heap.size + 1) j q := hS.below hWa (by show _ < w0.heap.size; omega)
    have hia : ia ≤ 100 := hRa.fits.2 (two_lt J (by omega))
    refine ⟨_, rfl, .inr hSa, ?_⟩
    simp only [Act.put, List.setIfInBounds_toArray, List.set_cons_zero, List.set_cons_succ]
    refine late_call 3 (some 20) (by kernel_rfl) rfl rfl rfl 48 #[.agg (natC j q), .agg (natC ia ra)] (by go_simp) _ (times_any wa HP.out.2 hRa hj hia) ?_
    rintro e wb ⟨ib, rb, rfl, hRb, hWb⟩
    have hsb : wa.heap.size ≤ wb.heap.size := hWb.size
    have hSb : NatAt wb (w.heap.size + 1) j q := hSa.below hWb (by omega)
    have lb := hRb.len
    have hjb : 0 < ib := Nat.pos_of_ne_zero (fun h => HM2.out (hRb.zero_iff.1 h))
    have HRb := hide hRb
    refine ⟨_, rfl, .inr hSb, ?_⟩
    simp only [Act.put, List.setIfInBounds_toArray, List.set_cons_zero, List.set_cons_succ]
    refine late_store 4 (by kernel_rfl) rfl rfl _ _ rfl rfl (w.heap.size + 1) ib rb rfl rfl j q hSb lq lb ?_
    intro w1 hN1 hg1 hs1
    refine ⟨.inl ⟨4, by simp, rfl⟩, ?_⟩
    refine late_done (by kernel_rfl) ?_ _
    refine NoPanic.normal ?_
    have B1 : NatAt w1 (w.heap.size + 1) ib rb := hN1
    have A1 : NatAt w1 w.heap.size k p := ((NatAt.below (w := w0.drew) A hWa (by show _ < w0.heap.size; omega)).below hWb (by omega)).grown hg1 (by simp)
    have C1 : NatAt w1 (w.heap.size + 1 + 1) 0 zP := ((NatAt.below (w := w0.drew) C hWa (by show _ < w0.heap.size; omega)).below hWb (by omega)).grown hg1 (by simp)
    have hBb : Below w.heap.size w wb := (hB.drew.trans (hWa.mono (by show _ ≤ w0.heap.size; omega))).trans (hWb.mono (by omega))
    have hB1 : Below w.heap.size w w1 := hBb.grown hg1 hBb.size (by intro k hk; cases hk; omega)
    have hs1' : w.heap.size + 1 + 1 + 1 ≤ w1.heap.size := by omega
    clear hS hSa hSb A B C hB hWa hWb hRa hRb hN1 hg1 hBb hs1 hsa hsb hws
    go_wp2_with (first | (refine load_nat rfl (.tmp 3) rfl w.heap.size rfl k p A1 lp ?_) | (refine load_nat rfl (.tmp 4) rfl (w.heap.size + 1) rfl ib rb B1 lb ?_))
    refine (divide_any w1 HP.out.1 HRb.out hjb (by omega)).mono ?_
    rintro e w2 ⟨i2, i3, r2, r3, rfl, hR2, hR3, hW2⟩
    have l2 := hR2.len
    have l3 := hR3.len
    have hi3 : i3 ≤ 200 := Nat.le_trans (hR3.cnt_le' HP.out.1 (Nat.mod_le _ _)) (by omega)
    have HR2 := hide (And.intro hR2 hR3)
    have hs2 := hW2.size
    have B2 : NatAt w2 (w.heap.size + 1) ib rb := B1.below hW2 (by omega)
    have C2 : NatAt w2 (w.heap.size + 1 + 1) 0 zP := C1.below hW2 (by omega)
    have hB2 : Below w.heap.size w w2 := hB1.trans (hW2.mono (by omega))
    have D2 := (NatAt.new w2 0 zP).old (.cells (natC 0 zP) 33)
    have E2 := NatAt.new (w2.alloc (.cells (natC 0 zP) 33)) 0 zP
    simp only [World.size_alloc] at E2
    clear A1 B1 C1 hB1 hW2 hR2 hR3
    go_wp2_with (first | (refine store_nat rfl (.tmp 8) _ rfl rfl w2.heap.size i2 r2 rfl rfl 0 zP D2 zP_len l2 ?_; intro w3 hN3 hg3 hs3) | (refine store_nat rfl (.tmp 9) _ rfl rfl (w2.heap.size + 1) i3 r3 rfl rfl 0 zP (E2.grown hg3 (by simp)) zP_len l3 ?_; intro w4 hN4 hg4 hs4))
    have B4 : NatAt w4 (w.heap.size + 1) ib rb := (((B2.old _).old _).grown hg3 (by simp; omega)).grown hg4 (by simp; omega)
    have C4 : NatAt w4 (w.heap.size + 1 + 1) 0 zP := (((C2.old _).old _).grown hg3 (by simp; omega)).grown hg4 (by simp; omega)
    have D4 : NatAt w4 w2.heap.size i2 r2 := hN3.grown hg4 (by simp)
    have hB3 : Below w.heap.size w w3 := ((hB2.alloc hB2.size _).alloc (by simp; have := hB2.size; omega) _).grown hg3 (by simp; have := hB2.size; omega) (by intro k hk; cases hk; have := hB2.size; omega)
    have hB4 : Below w.heap.size w w4 := hB3.grown hg4 hB3.size (by intro k hk; cases hk; omega)
    have hs4' : w2.heap.size + 1 + 1 ≤ w4.heap.size := by rw [hs4, hs3]; simp
    clear B2 C2 hB2 D2 E2 hg3 hg4 hs3 hs4 hN3 hB3
    refine held_begin (fun w' => NatAt w' w2.heap.size i2 r2 ∧ NatAt w' (w2.heap.size + 1) i3 r3 ∧ NatAt w' (w.heap.size + 1) ib rb) (by kernel_rfl) ?_
    have hS : NatAt w4.drew w2.heap.size i2 r2 ∧ NatAt w4.drew (w2.heap.size + 1) i3 r3 ∧ NatAt w4.drew (w.heap.size + 1) ib rb := ⟨D4, hN4, B4⟩
    refine held_load 0 (some 27) rfl rfl (by kernel_rfl) (by kernel_rfl) (by kernel_rfl) noPanic_put rfl _ rfl (w2.heap.size) rfl i2 r2 (fun _ h => h.1) l2 hS ?_
    simp only [Act.put, List.setIfInBounds_toArray, List.set_cons_zero, List.set_cons_succ]
    refine held_load 1 (some 28) rfl rfl (by kernel_rfl) (by kernel_rfl) (by kernel_rfl) noPanic_put rfl _ rfl (w2.heap.size + 1) rfl i3 r3 (fun _ h => h.2.1) l3 hS ?_
    simp only [Act.put, List.setIfInBounds_toArray, List.set_cons_zero, List.set_cons_succ]
    refine held_load 3 (some 30) rfl rfl (by kernel_rfl) (by kernel_rfl) (by kernel_rfl) noPanic_put rfl _ rfl (w.heap.size + 1) rfl ib rb (fun _ h => h.2.2) lb hS ?_
    simp only [Act.put, List.setIfInBounds_toArray, List.set_cons_zero, List.set_cons_succ]
    refine held_call 2 (some 29) (by kernel_rfl) rfl rfl rfl 43 #[.agg (natC i3 r3), .int .i64 2, .int .i64 0] (by go_simp) _ (timesWide_any 2 0 w4.drew 2 0 HR2.out.2 hi3 rfl rfl (by omega) (by omega) (by omega) (by omega)) ?_
    rintro e w5 ⟨i5, r5, rfl, hR5, hW5⟩
    have hs5 : w4.heap.size ≤ w5.heap.size := hW5.size
    have hS5 : NatAt w5 w2.heap.size i2 r2 ∧ NatAt w5 (w2.heap.size + 1) i3 r3 ∧ NatAt w5 (w.heap.size + 1) ib rb := ⟨hS.1.below hW5 (by show _ < w4.heap.size; omega), hS.2.1.below hW5 (by show _ < w4.heap.size; omega), hS.2.2.below hW5 (by show _ < w4.heap.size; omega)⟩
    have C5 : NatAt w5 (w.heap.size + 1 + 1) 0 zP := NatAt.below (w := w4.drew) C4 hW5 (by show _ < w4.heap.size; omega)
    have hB5 : Below w.heap.size w w5 := hB4.drew.trans (hW5.mono (by show _ ≤ w4.heap.size; omega))
    refine ⟨_, rfl, hS5, ?_⟩
    simp only [Act.put, List.setIfInBounds_toArray, List.set_cons_zero, List.set_cons_succ]
    refine held_call 4 (some 31) (by kernel_rfl) rfl rfl rfl 28 #[.agg (natC i5 r5), .agg (natC ib rb)] (by go_simp) _ (compare_rep w5 hR5 HRb.out) ?_
    rintro e w6 ⟨rfl, hW6⟩
    have hs6 : w5.heap.size ≤ w6.heap.size := hW6.size
    have hS6 : NatAt w6 w2.heap.size i2 r2 ∧ NatAt w6 (w2.heap.size + 1) i3 r3 ∧ NatAt w6 (w.heap.size + 1) ib rb := ⟨hS5.1.below hW6 (by omega), hS5.2.1.below hW6 (by omega), hS5.2.2.below hW6 (by omega)⟩
    have C6 : NatAt w6 (w.heap.size + 1 + 1) 0 zP := C5.below hW6 (by omega)
    have hB6 : Below w.heap.size w w6 := hB5.trans (hW6.mono (by omega))
    refine ⟨_, rfl, hS6, ?_⟩
    simp only [Act.put, List.setIfInBounds_toArray, List.set_cons_zero, List.set_cons_succ]
    refine held_store 5 (by kernel_rfl) rfl rfl _ _ rfl rfl (w.heap.size + 1 + 1) i2 r2 rfl rfl 0 zP C6 zP_len l2 ?_
    intro w7 hN7 hg7 hs7
    have hS7 : NatAt w7 w2.heap.size i2 r2 ∧ NatAt w7 (w2.heap.size + 1) i3 r3 ∧ NatAt w7 (w.heap.size + 1) ib rb := ⟨hS6.1.grown hg7 (by simp; omega), hS6.2.1.grown hg7 (by simp; omega), hS6.2.2.grown hg7 (by simp)⟩
    refine ⟨hS7, ?_⟩
    refine held_assign 6 (some 7) (by kernel_rfl) rfl rfl _ rfl rfl (.int .i64 (cmpI ((2 * (n % (m * 2 ^ J)) + 0 : Nat) : Int) (((m * 2 ^ J) : Nat) : Int))) rfl hS7 ?_
    simp only [Act.put, List.setIfInBounds_toArray, List.set_cons_zero, List.set_cons_succ]
    refine wpAnyH_done (by kernel_rfl) ?_ _
    refine NoPanic.normal ?_
    go_wp2
    refine bodyPost_ret (res_nat_tmp Tryd.results27 _ _ (w.heap.size + 1 + 1) _ _ _ rfl rfl hN7 l2) rfl ⟨i2, r2, ?_, ?_, hB6.grown hg7 hB6.size (by intro k hk; cases hk; omega)⟩
    · rw [HC.out.2, Nat.add_zero, cmpI_nat]; rfl
    · rw [HC.out.1]; exact HR2.out.1
end Go.Proofs.YtoiegaggekgmjaaDoor

/-
  What nearestRank of impl answers: the rank of the nearest real.
-/
namespace Go.Proofs.YtoiegaggekgmjaaDoor
open Go.RowKit
set_option linter.unusedVariables false

theorem qk_lt_pow {N D k : Nat} (a : Nat) (hN : N < 2 ^ a) (hD : 0 < D) (hk : a + 150 ≤ k + 53) : qk N D k < 9007199254740992 := by
  unfold qk
  rw [Nat.div_lt_iff_lt_mul (Nat.mul_pos hD (Nat.two_pow_pos k))]
  have h1 : N * 2 ^ 150 < 2 ^ a * 2 ^ 150 := Nat.mul_lt_mul_of_pos_right hN (Nat.two_pow_pos _)
  have h2 : 2 ^ a * 2 ^ 150 ≤ 2 ^ 53 * 2 ^ k := by
    rw [← Nat.pow_add, ← Nat.pow_add]
    exact Nat.pow_le_pow_right (by decide) (by omega)
  have h3 : (2 : Nat) ^ 53 = 9007199254740992 := by decide
  rw [h3] at h2
  have h4 : 9007199254740992 * 2 ^ k ≤ 9007199254740992 * (D * 2 ^ k) := Nat.mul_le_mul_left _ (Nat.le_mul_of_pos_left _ hD)
  omega
/-- There is one that fits. -/
theorem fit_exists {N D : Nat} : ∀ b : Nat, qk N D b < 9007199254740992 → ∃ E, E ≤ b ∧ Fit N D E
  | 0, h => ⟨0, Nat.le_refl _, h, .inr rfl⟩
  | b + 1, h => by
    by_cases h1 : qk N D b < 9007199254740992
    · obtain ⟨E, hE, hf⟩ := fit_exists b h1
      exact ⟨E, by omega, hf⟩
    · refine ⟨b + 1, Nat.le_refl _, h, .inl ?_⟩
      rw [qk_succ]
      omega
theorem Fit.up {N D E K : Nat} (h : Fit N D E) (hK : 9007199254740992 ≤ qk N D K) : K < E := by
  rcases Nat.lt_or_ge K E with h1 | h1
  · exact h1
  · have := qk_anti (N := N) (D := D) h1
    have := h.1
    omega
theorem Fit.down {N D E K : Nat} (h : Fit N D E) (hK : qk N D K < 4503599627370496) (h0 : 0 < K) : E < K := by
  rcases Nat.lt_or_ge E K with h1 | h1
  · exact h1
  · have := qk_anti (N := N) (D := D) h1
    rcases h.2 with h2 | h2 <;> omega
theorem rep_lead {n k : Nat} {p : List Int} (h : Rep n k p) (hn : n < 9007199254740992) : (p.getD (0 + 2) 0 * 1000000 + p.getD (0 + 1) 0) * 1000000 + p.getD 0 0 = (n : Int) := by
  have hk : k ≤ 3 := by
    rcases Nat.lt_or_ge 3 k with h1 | h1
    · have h2 := h.geN (by omega)
      have h3 : 1000000 ^ 3 ≤ 1000000 ^ (k - 1) := Nat.pow_le_pow_right (by decide) (by omega)
      have h4 : (1000000 : Nat) ^ 3 = 1000000000000000000 := by decide
      omega
    · exact h1
  obtain ⟨N', h0, h1, h2⟩ := lead_split h 0 (by omega) (by omega)
  simp at h1 h2 ⊢
  omega
theorem cmpN_neg {a b : Nat} (h : a < b) : cmpN a b = -1 := by unfold cmpN; rw [if_pos h]
theorem cmpN_ge {a b : Nat} (h : b ≤ a) : 0 ≤ cmpN a b := by unfold cmpN; rw [if_neg (by omega)]; split <;> omega
theorem cmpN_lt {a b : Nat} : cmpN a b < 0 ↔ a < b := by
  unfold cmpN
  split
  · omega
  · split <;> omega
theorem near_zero (m : Nat) (hm : m ≠ 0) : Near 0 m 0 := by
  refine ⟨0, ⟨?_, .inr rfl⟩, ?_⟩
  · unfold qk; simp
  · have h1 : qk 0 m 0 = 0 := by unfold qk; simp
    have h2 : ck 0 m 0 = -1 := by
      unfold ck rk
      rw [Nat.zero_mul, Nat.zero_mod, Nat.mul_zero, Nat.pow_zero, Nat.mul_one]
      exact cmpN_neg (Nat.pos_of_ne_zero hm)
    unfold manR
    rw [h1, h2]
    rfl

set_option maxHeartbeats 4000000 in
set_option maxRecDepth 100000 in
theorem nearestRank_any {n m k j : Nat} {p q : List Int} (w : World) (hP : Rep n k p) (hQ : Rep m j q) (hk : k ≤ 100) (hj : j ≤ 100) (hn : n < 2 ^ 1000) (hm : m ≠ 0) :
    Calls Tryd.prog 11 #[.agg (natC k p), .agg (natC j q)] w fun e w' => (∃ (r : Int) (R : Nat), e = .returned (.int .i64 r) ∧ r = (R : Int) ∧ Near n m R ∧ r ≤ 9000000000000000000) ∧ Below w.heap.size w w' := by
  have hz := zero_nat.1
  have lp := hP.len
  have lq := hQ.len
  have A := (NatAt.new w k p).old (.cells (natC j q) 33)
  have B := NatAt.new (w.alloc (.cells (natC k p) 33)) j q
  have hB : Below w.heap.size w ((w.alloc (.cells (natC k p) 33)).alloc (.cells (natC j q) 33)) := ((Below.refl _ _).alloc (Nat.le_refl _) _).alloc (by simp) _
  simp only [World.size_alloc] at B
  have a0 := A.c0
  have HP := hide (And.intro hP hQ)
  have HM := hide hm
  obtain ⟨E, hE, hF⟩ : ∃ E, E ≤ 1100 ∧ Fit n m E := fit_exists 1100 (qk_lt_pow 1000 hn (Nat.pos_of_ne_zero hm) (by omega))
  have HF := hide hF
  clear hm hF hn
  by_cases hk0 : (k : Int) = 0
  · have hkb : ((k : Int) == 0) = true := by simpa using hk0
    have hn0 : n = 0 := hP.zero_iff.1 (by omega)
    subst hn0
    have HN := hide (near_zero m HM.out)
    clear hP hQ hk0
    go_enter Tryd.func11, Tryd.ntmps11
    go_wp2
    go_ret
    exact ⟨⟨0, 0, rfl, rfl, HN.out, by omega⟩, hB⟩
  · have hkb : ((k : Int) == 0) = false := by simpa using hk0
    clear hP hQ
    go_enter Tryd.func11, Tryd.ntmps11
    have hws : ((w.alloc (.cells (natC k p) 33)).alloc (.cells (natC j q) 33)).heap.size = w.heap.size + 1 + 1 := by simp
    generalize hw0 : (w.alloc (.cells (natC k p) 33)).alloc (.cells (natC j q) 33) = w0 at A B hB a0 hws
    go_wp2_with fail
    clear hw0 a0
    refine (natOf_big 4503599627370496 4503599627370496 w0 rfl (by omega) (by omega)).mono ?_
    rintro e w1 ⟨i1, r1, rfl, hR1, hW1⟩
    have l1 := hR1.len
    have HR1 := hide hR1
    have hs1 := hW1.size
    go_wp2_with fail
    refine (natOf_big 9007199254740992 9007199254740992 w1 rfl (by omega) (by omega)).mono ?_
    rintro e w2 ⟨i2, r2, rfl, hR2, hW2⟩
    have l2 := hR2.len
    have HR2 := hide hR2
    have hs2 := hW2.size
    have A2 : NatAt w2 w.heap.size k p := (A.below hW1 (by omega)).below hW2 (by omega)
    have B2 : NatAt w2 (w.heap.size + 1) j q := (B.below hW1 (by omega)).below hW2 (by omega)
    have hB2 : Below w.heap.size w w2 := (hB.trans (hW1.mono (by omega))).trans (hW2.mono (by omega))
    have hs2' : w.heap.size + 1 + 1 ≤ w2.heap.size := by omega
    have C2 := (NatAt.new w2 0 zP).old (.cells (natC 0 zP) 33)
    have D2 := NatAt.new (w2.alloc (.cells (natC 0 zP) 33)) 0 zP
    simp only [World.size_alloc] at D2
    clear A B hB hW1 hW2 hs1 hs2 hws hR1 hR2
    go_wp2_with (first | (refine store_nat rfl (.tmp 5) _ rfl rfl w2.heap.size i1 r1 rfl rfl 0 zP C2 zP_len l1 ?_; intro w3 hN3 hg3 hs3) | (refine store_nat rfl (.tmp 6) _ rfl rfl (w2.heap.size + 1) i2 r2 rfl rfl 0 zP (D2.grown hg3 (by simp)) zP_len l2 ?_; intro w4 hN4 hg4 hs4) | (refine load_nat rfl (.tmp 2) rfl w.heap.size rfl k p ((((A2.old _).old _).grown hg3 (by simp; omega)).grown hg4 (by simp; omega)) lp ?_) | (refine load_nat rfl (.tmp 3) rfl (w.heap.size + 1) rfl j q ((((B2.old _).old _).grown hg3 (by simp; omega)).grown hg4 (by simp; omega)) lq ?_))
    have A4 : NatAt w4 w.heap.size k p := (((A2.old _).old _).grown hg3 (by simp; omega)).grown hg4 (by simp; omega)
    have B4 : NatAt w4 (w.heap.size + 1) j q := (((B2.old _).old _).grown hg3 (by simp; omega)).grown hg4 (by simp; omega)
    have C4 : NatAt w4 w2.heap.size i1 r1 := hN3.grown hg4 (by simp)
    have hB3 : Below w.heap.size w w3 := ((hB2.alloc hB2.size _).alloc (by simp; have := hB2.size; omega) _).grown hg3 (by simp; have := hB2.size; omega) (by intro k hk; cases hk; have := hB2.size; omega)
    have hB4 : Below w.heap.size w w4 := hB3.grown hg4 hB3.size (by intro k hk; cases hk; omega)
    have hs4' : w2.heap.size + 1 + 1 ≤ w4.heap.size := by rw [hs4, hs3]; simp
    clear A2 B2 hB2 C2 D2 hN3 hg3 hs3 hB3 hg4 hs4
    refine (guessExp_any w4 HP.out.1 HP.out.2 (by omega) (by omega)).mono ?_
    rintro e w5 ⟨⟨z, rfl, hz1, hz2⟩, hW5⟩
    have A5 : NatAt w5 w.heap.size k p := A4.below hW5 (by omega)
    have B5 : NatAt w5 (w.heap.size + 1) j q := B4.below hW5 (by omega)
    have C5 : NatAt w5 w2.heap.size i1 r1 := C4.below hW5 (by omega)
    have D5 : NatAt w5 (w2.heap.size + 1) i2 r2 := hN4.below hW5 (by omega)
    have hB5 : Below w.heap.size w w5 := hB4.trans (hW5.mono (by omega))
    have hs5 : w2.heap.size + 1 + 1 ≤ w5.heap.size := by have := hW5.size; omega
    clear A4 B4 C4 hN4 hB4 hW5 hs4'
    obtain ⟨K0, hK0⟩ : ∃ K0 : Nat, z + 150 = (K0 : Int) := ⟨(z + 150).toNat, by omega⟩
    have HK0 := hide hK0
    clear hK0
    go_wp2_with fail
    go_loopg [7] ((K0 - E) + (E - K0)) (fun g v7 wr => ∃ (z : Int) (K : Nat), g = (K - E) + (E - K) ∧ v7 = .int .i64 z ∧ Hid (z + 150 = (K : Int)) ∧ -150 ≤ z ∧ z ≤ 972 ∧ NatAt wr w.heap.size k p ∧ NatAt wr (w.heap.size + 1) j q ∧ NatAt wr w2.heap.size i1 r1 ∧ NatAt wr (w2.heap.size + 1) i2 r2 ∧ Below w.heap.size w wr ∧ w2.heap.size + 1 + 1 ≤ wr.heap.size)
    case atStart => exact ⟨z, K0, rfl, rfl, HK0, hz1, hz2, A5, B5, C5, D5, hB5, hs5⟩
    case round =>
      obtain ⟨z, K, HG, rfl, HK, hz1, hz2, hA, hBb, hC, hD, hW, hsr⟩ := hrel
      have HGG := hide HG
      clear A5 B5 C5 D5 hB5 hs5 HK0 HG
      go_wp2_with (first | (refine load_nat rfl (.tmp 2) rfl w.heap.size rfl k p hA lp ?_) | (refine load_nat rfl (.tmp 3) rfl (w.heap.size + 1) rfl j q hBb lq ?_))
      refine (manyTwos_any z wr HP.out.1 HP.out.2 hk hj HM.out HK.out (by omega)).mono ?_
      rintro e w6 ⟨i6, r6, rfl, hR6, hW6⟩
      have l6 := hR6.len
      have HR6 := hide hR6
      have hA6 : NatAt w6 w.heap.size k p := hA.below hW6 (by omega)
      have hB6 : NatAt w6 (w.heap.size + 1) j q := hBb.below hW6 (by omega)
      have hC6 : NatAt w6 w2.heap.size i1 r1 := hC.below hW6 (by omega)
      have hD6 : NatAt w6 (w2.heap.size + 1) i2 r2 := hD.below hW6 (by omega)
      have hW6' : Below w.heap.size w w6 := hW.trans (hW6.mono (by omega))
      have hs6 : w2.heap.size + 1 + 1 ≤ w6.heap.size := by have := hW6.size; omega
      have E6 := NatAt.new w6 0 zP
      clear hA hBb hC hD hW hW6 hsr hR6
      obtain ⟨c, hc⟩ : ∃ c, c = ck n m K := ⟨_, rfl⟩
      rw [← hc]
      have HC := hide hc
      clear hc
      go_wp2_with (first | (refine store_nat rfl (.tmp 8) _ rfl rfl w6.heap.size i6 r6 rfl rfl 0 zP E6 zP_len l6 ?_; intro w7 hN7 hg7 hs7) | (refine load_nat rfl (.tmp 8) rfl w6.heap.size rfl i6 r6 hN7 l6 ?_) | (refine load_nat rfl (.tmp 6) rfl (w2.heap.size + 1) rfl i2 r2 ((hD6.old _).grown hg7 (by simp; omega)) l2 ?_))
      have hA7 : NatAt w7 w.heap.size k p := (hA6.old _).grown hg7 (by simp; omega)
      have hB7 : NatAt w7 (w.heap.size + 1) j q := (hB6.old _).grown hg7 (by simp; omega)
      have hC7 : NatAt w7 w2.heap.size i1 r1 := (hC6.old _).grown hg7 (by simp; omega)
      have hD7 : NatAt w7 (w2.heap.size + 1) i2 r2 := (hD6.old _).grown hg7 (by simp; omega)
      have hW7 : Below w.heap.size w w7 := (hW6'.alloc hW6'.size _).grown hg7 (by simp; have := hW6'.size; omega) (by intro k hk; cases hk; have := hW6'.size; omega)
      have hs7' : w6.heap.size + 1 ≤ w7.heap.size := by rw [hs7]; simp
      clear hA6 hB6 hC6 hD6 hW6' E6 hg7 hs7
      refine (compare_rep w7 HR6.out HR2.out).mono ?_
      rintro e w8 ⟨rfl, hW8⟩
      have hs8 := hW8.size
      have hA8 : NatAt w8 w.heap.size k p := hA7.below hW8 (by omega)
      have hB8 : NatAt w8 (w.heap.size + 1) j q := hB7.below hW8 (by omega)
      have hC8 : NatAt w8 w2.heap.size i1 r1 := hC7.below hW8 (by omega)
      have hD8 : NatAt w8 (w2.heap.size + 1) i2 r2 := hD7.below hW8 (by omega)
      have hE8 : NatAt w8 w6.heap.size i6 r6 := hN7.below hW8 (by omega)
      have hBl8 : Below w.heap.size w w8 := hW7.trans (hW8.mono (by omega))
      have hs8' : w6.heap.size + 1 ≤ w8.heap.size := by omega
      rw [cmpI_nat]
      clear hA7 hB7 hC7 hD7 hW7 hN7 hW8 hs7' hs8
      by_cases h1 : 9007199254740992 ≤ qk n m K
      · obtain ⟨d, hd⟩ : ∃ d, d = cmpN (qk n m K) 9007199254740992 := ⟨_, rfl⟩
        rw [← hd]
        have hd0 : 0 ≤ d := by rw [hd]; exact cmpN_ge h1
        have HE := hide (HF.out.up h1)
        have hKE : K < E := HF.out.up h1
        have hz3 : z + 1 ≤ 972 := by have := HK.out; omega
        clear hd h1
        go_wp2
        go_roundg ((K + 1 - E) + (E - (K + 1)))
        case measure => have := HGG.out; omega
        case rel => exact ⟨z + 1, K + 1, rfl, by go_num, by unfold Hid; have := HK.out; omega, by omega, by omega, hA8, hB8, hC8, hD8, hBl8, by omega⟩
      · have hq1 : qk n m K < 9007199254740992 := by omega
        rw [cmpN_neg hq1]
        go_wp2_with (first | (refine load_nat rfl (.tmp 8) rfl w6.heap.size rfl i6 r6 hE8 l6 ?_) | (refine load_nat rfl (.tmp 5) rfl w2.heap.size rfl i1 r1 hC8 l1 ?_))
        refine (compare_rep w8 HR6.out HR1.out).mono ?_
        rintro e w9 ⟨rfl, hW9⟩
        have hs9 := hW9.size
        have hA9 : NatAt w9 w.heap.size k p := hA8.below hW9 (by omega)
        have hB9 : NatAt w9 (w.heap.size + 1) j q := hB8.below hW9 (by omega)
        have hC9 : NatAt w9 w2.heap.size i1 r1 := hC8.below hW9 (by omega)
        have hD9 : NatAt w9 (w2.heap.size + 1) i2 r2 := hD8.below hW9 (by omega)
        have hE9 : NatAt w9 w6.heap.size i6 r6 := hE8.below hW9 (by omega)
        have hBl9 : Below w.heap.size w w9 := hBl8.trans (hW9.mono (by omega))
        have hs9' : w6.heap.size + 1 ≤ w9.heap.size := by omega
        rw [cmpI_nat]
        clear hA8 hB8 hC8 hD8 hE8 hBl8 hW9 hs8' hs9 h1
        by_cases h2 : qk n m K < 4503599627370496 ∧ -150 < z
        · rw [cmpN_neg h2.1]
          have hKE : E < K := HF.out.down h2.1 (by have := HK.out; have := h2.2; omega)
          have hz3 := h2.2
          clear h2 hq1
          go_wp2
          go_roundg ((K - 1 - E) + (E - (K - 1)))
          case measure => have := HGG.out; omega
          case rel => exact ⟨z - 1, K - 1, rfl, by go_num, by unfold Hid; have := HK.out; omega, by omega, by omega, hA9, hB9, hC9, hD9, hBl9, by omega⟩
        · have HFK : Hid (Fit n m K) := ⟨hq1, by have := HK.out; omega⟩
          obtain ⟨d, hd⟩ : ∃ d, d = cmpN (qk n m K) 4503599627370496 := ⟨_, rfl⟩
          rw [← hd]
          have hdz : ¬ (d < 0 ∧ -150 < z) := by
            rintro ⟨h3, h4⟩
            rw [hd] at h3
            exact h2 ⟨cmpN_lt.1 h3, h4⟩
          clear hd h2
          obtain ⟨Y, hY⟩ : ∃ Y, (z + 150) * 4503599627370496 = Y := ⟨_, rfl⟩
          have hY0 : 0 ≤ Y := by omega
          have hY1 : Y ≤ 5053038781909696512 := by omega
          have HY := hide hY
          have hcase : (d < 0 ∧ z ≤ -150) ∨ 0 ≤ d := by omega
          clear hdz
          have HL := hideT' (fun w' => lead_any 0 3 w' HR6.out rfl (by omega))
          have HLe := hideT' (rep_lead HR6.out hq1)
          obtain ⟨y, hy⟩ : ∃ y : Int, y = (qk n m K : Int) := ⟨_, rfl⟩
          rw [← hy] at HLe
          rw [HLe.out] at HL
          have hy0 : 0 ≤ y := by omega
          have hy1 : y < 9007199254740992 := by omega
          have Hy := hide hy
          have hrem : y.tmod 2 = y % 2 := Int.tmod_eq_emod_of_nonneg hy0
          clear hy hq1 HLe
          rcases hcase with ⟨h3, h4⟩ | h3
          all_goals
            go_wp2_with (refine load_nat rfl (.tmp 8) rfl w6.heap.size rfl i6 r6 hE9 l6 ?_)
            refine (HL.out w9).mono ?_
            rintro e w10 ⟨rfl, hW10⟩
            have hBl10 : Below w.heap.size w w10 := hBl9.trans (hW10.mono (by omega))
            clear hA9 hB9 hC9 hD9 hE9 hBl9 hW10
            by_cases hc0 : 0 < c
            · have HRR : Hid (Y + (y + 1) = ((K * 4503599627370496 + manR n m K : Nat) : Int)) := by
                unfold Hid manR
                have e1 := HY.out
                have e2 := HK.out
                have e3 := Hy.out
                have e4 : ((upR (qk n m K) (ck n m K) : Nat) : Int) = y + 1 := by
                  rw [← HC.out]
                  unfold upR
                  rw [if_pos (by have := Hy.out; omega)]
                  omega
                omega
              go_wp2
              go_ret
              exact ⟨⟨_, _, rfl, HRR.out, ⟨K, HFK.out, rfl⟩, by omega⟩, hBl10⟩
            · by_cases hc1 : c = 0
              · subst hc1
                by_cases hp : y % 2 = 1
                · have HRR : Hid (Y + (y + 1) = ((K * 4503599627370496 + manR n m K : Nat) : Int)) := by
                    unfold Hid manR
                    have e1 := HY.out
                    have e2 := HK.out
                    have e3 := Hy.out
                    have e4 : ((upR (qk n m K) (ck n m K) : Nat) : Int) = y + 1 := by
                      rw [← HC.out]
                      unfold upR
                      rw [if_pos (by have := Hy.out; omega)]
                      omega
                    omega
                  go_wp2
                  go_ret
                  exact ⟨⟨_, _, rfl, HRR.out, ⟨K, HFK.out, rfl⟩, by omega⟩, hBl10⟩
                · have hp0 : y % 2 = 0 := by omega
                  have HRR : Hid (Y + y = ((K * 4503599627370496 + manR n m K : Nat) : Int)) := by
                    unfold Hid manR
                    have e1 := HY.out
                    have e2 := HK.out
                    have e3 := Hy.out
                    have e4 : ((upR (qk n m K) (ck n m K) : Nat) : Int) = y := by
                      rw [← HC.out]
                      unfold upR
                      rw [if_neg (by have := Hy.out; omega)]
                      omega
                    omega
                  go_wp2
                  go_ret
                  exact ⟨⟨_, _, rfl, HRR.out, ⟨K, HFK.out, rfl⟩, by omega⟩, hBl10⟩
              · have hc2 : (c == 0) = false := by simpa using hc1
                have HRR : Hid (Y + y = ((K * 4503599627370496 + manR n m K : Nat) : Int)) := by
                  unfold Hid manR
                  have e1 := HY.out
                  have e2 := HK.out
                  have e3 := Hy.out
                  have e4 : ((upR (qk n m K) (ck n m K) : Nat) : Int) = y := by
                    rw [← HC.out]
                    unfold upR
                    rw [if_neg (by have := Hy.out; omega)]
                    omega
                  omega
                go_wp2
                go_ret
                exact ⟨⟨_, _, rfl, HRR.out, ⟨K, HFK.out, rfl⟩, by omega⟩, hBl10⟩
end Go.Proofs.YtoiegaggekgmjaaDoor
