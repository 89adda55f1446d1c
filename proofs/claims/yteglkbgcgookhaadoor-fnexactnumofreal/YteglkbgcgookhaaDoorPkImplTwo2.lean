/-
  The texts ImplTwo2, ImplMany, ImplNear, one behind the other.
-/
import Derived.Test.YteglkbgcgookhaaDoorImplTwo
import Derived.Test.YteglkbgcgookhaaDoorPkDivideA
import Derived.Test.YteglkbgcgookhaaDoorRealMath

/-
  What twoTo of impl answers.
-/
namespace Go.Proofs.YteglkbgcgookhaaDoor
open Go.RowKit
set_option linter.unusedVariables false

theorem shl_exec {o : Oper} {a : Act} {x y : Operand} {t : TypeId} (ho : o.op = .binOp .shl 3 x y 3) (hx : a.eval x = .int .i64 1) {s : Nat} {z : Int} (hy : a.eval y = .int .i64 z) (hz : z = (s : Int)) (hs : s ≤ 19) (w : World) : (execOp a.eval o).run Tryd.prog w = .ok (.value (.int .i64 ((2 ^ s : Nat) : Int))) w := by
  subst hz
  unfold execOp
  simp only [ho, hx, hy]
  have : s = 0 ∨ s = 1 ∨ s = 2 ∨ s = 3 ∨ s = 4 ∨ s = 5 ∨ s = 6 ∨ s = 7 ∨ s = 8 ∨ s = 9 ∨ s = 10 ∨ s = 11 ∨ s = 12 ∨ s = 13 ∨ s = 14 ∨ s = 15 ∨ s = 16 ∨ s = 17 ∨ s = 18 ∨ s = 19 := by omega
  rcases this with rfl | rfl | rfl | rfl | rfl | rfl | rfl | rfl | rfl | rfl | rfl | rfl | rfl | rfl | rfl | rfl | rfl | rfl | rfl | rfl <;> rfl
theorem two_lt_ten (j e : Nat) (hj : j ≤ 2 * e) (he : e ≠ 0) : 2 ^ j < 10 ^ e := by
  have h1 : 2 ^ j ≤ 2 ^ (2 * e) := Nat.pow_le_pow_right (by decide) hj
  rw [Nat.pow_mul] at h1
  exact Nat.lt_of_le_of_lt h1 (Nat.pow_lt_pow_left (by decide) he)
theorem two_lt (j : Nat) (hj : j ≤ 1200) : 2 ^ j < 10 ^ 600 := two_lt_ten j 600 (by omega) (by decide)
theorem two_up {N g T : Nat} (hg : g ≤ N) (hT : T ≤ g) : 2 ^ T * 2 ^ (N - g) + 0 = 2 ^ (N - (g - T)) := by
  rw [Nat.add_zero, ← Nat.pow_add]; congr 1; omega
theorem two_small (T : Nat) (hT : T ≤ 19) : 0 < ((2 ^ T : Nat) : Int) ∧ ((2 ^ T : Nat) : Int) ≤ 1000000 := by
  have h1 : 2 ^ T ≤ 2 ^ 19 := Nat.pow_le_pow_right (by decide) hT
  have h2 : 0 < 2 ^ T := Nat.two_pow_pos T
  have h3 : (2 : Nat) ^ 19 = 524288 := by decide
  omega

set_option maxHeartbeats 2000000 in
set_option maxRecDepth 100000 in
theorem twoTo_any (N : Nat) (z : Int) (w : World) (hz' : z = (N : Int)) (hb : z ≤ 1200) :
    Calls Tryd.prog 69 #[.int .i64 z] w fun e w' => ∃ (i : Nat) (r : List Int), e = .returned (.agg (natC i r)) ∧ Rep (2 ^ N) i r ∧ Below w.heap.size w w' := by
  have hz := zero_nat.1
  have hB : Below w.heap.size w (w.alloc (.cells (natC 0 zP) 52)) := (Below.refl _ _).alloc (Nat.le_refl _) _
  have A := NatAt.new w 0 zP
  subst hz'
  go_enter Tryd.func69, Tryd.ntmps69
  go_wp2_with fail
  refine (natOf_any 1 1 _ rfl (by omega) (by omega)).mono ?_
  rintro e w1 ⟨i1, r1, rfl, hR1, hW1⟩
  have hs1 : w.heap.size + 1 ≤ w1.heap.size := by have := hW1.size; simpa using this
  have A1 : NatAt w1 w.heap.size 0 zP := A.below hW1 (by simp)
  have hB1 : Below w.heap.size w w1 := hB.trans (hW1.mono (by simp))
  have l1 := hR1.len
  have B1 := NatAt.new w1 0 zP
  have HR1 := hide hR1
  clear A hB hW1 hR1
  go_wp2_with (first | (refine store_nat rfl _ _ rfl rfl w1.heap.size i1 r1 rfl rfl 0 zP B1 zP_len l1 ?_; intro w2 hN2 hg2 hs2))
  have A2 : NatAt w2 w.heap.size 0 zP := (A1.old _).grown hg2 (by simp; omega)
  have hB2 : Below w.heap.size w w2 := (hB1.alloc hB1.size _).grown hg2 (by simp; omega) (by intro k hk; cases hk; omega)
  have hs2' : w1.heap.size + 1 ≤ w2.heap.size := by rw [hs2]; simp
  clear A1 hB1 B1 hg2 hs2
  go_loopg [0, 4] N (fun g v0 v4 wr => ∃ (i : Nat) (s : List Int), g ≤ N ∧ v0 = .int .i64 (g : Int) ∧ Hid (Rep (2 ^ (N - g)) i s) ∧ s.length = 204 ∧ NatAt wr w1.heap.size i s ∧ NatAt wr w.heap.size 0 zP ∧ Below w.heap.size w wr ∧ w1.heap.size + 1 ≤ wr.heap.size)
  case atStart => exact ⟨i1, r1, Nat.le_refl _, rfl, by unfold Hid; rw [Nat.sub_self]; exact HR1.out, l1, hN2, A2, hB2, hs2'⟩
  case round =>
    obtain ⟨i, s, hg, rfl, HR, ls, hN, hA, hW, hsr⟩ := hrel
    clear hN2 A2 hB2 hs2' HR1
    by_cases h0 : 0 < (gk : Int)
    · have hi : i ≤ 200 := by
        have := HR.out.fits.2 (two_lt (N - gk) (by omega))
        omega
      by_cases h19 : (19 : Int) < (gk : Int)
      · go_wp2_with fail
        refine late_begin [4] (fun w' => NatAt w' w1.heap.size i s) (by kernel_rfl) ?_
        have hS : NatAt wr.drew w1.heap.size i s := hN
        refine late_val 0 (some 10) rfl rfl (by kernel_rfl) (by kernel_rfl) (by kernel_rfl) [3, 4] (by kernel_rfl) noPanic_put rfl (.agg (natC i s)) (fun _ h => run_nat0 _ rfl w1.heap.size rfl i s ls h) hS ?_
        simp only [Act.put, List.setIfInBounds_toArray, List.set_cons_zero, List.set_cons_succ]
        refine late_val 1 (some 11) rfl rfl (by kernel_rfl) (by kernel_rfl) (by kernel_rfl) [2, 3, 4] (by kernel_rfl) noPanic_put rfl (.int .i64 19) (fun _ _ => by go_simp) hS ?_
        simp only [Act.put, List.setIfInBounds_toArray, List.set_cons_zero, List.set_cons_succ]
        refine late_val 2 (some 12) rfl rfl (by kernel_rfl) (by kernel_rfl) (by kernel_rfl) [3, 4] (by kernel_rfl) noPanic_put rfl (.int .i64 ((2 ^ 19 : Nat) : Int)) (fun w' _ => shl_exec (t := 3) (s := 19) rfl rfl (z := 19) rfl (by omega) (by omega) w') hS ?_
        simp only [Act.put, List.setIfInBounds_toArray, List.set_cons_zero, List.set_cons_succ]
        refine late_call 3 (some 13) (by kernel_rfl) rfl rfl rfl 80 #[.agg (natC i s), .int .i64 ((2 ^ 19 : Nat) : Int), .int .i64 0] (by go_simp) _ (timesWide_any ((2 ^ 19 : Nat) : Int) 0 wr.drew (2 ^ 19) 0 HR.out hi rfl rfl (two_small 19 (by omega)).1 (two_small 19 (by omega)).2 (by omega) (by omega)) ?_
        rintro e w3 ⟨j, r, rfl, hR3, hW3⟩
        have hs3 : wr.heap.size ≤ w3.heap.size := hW3.size
        have hS3 : NatAt w3 w1.heap.size i s := hS.below hW3 (by show _ < wr.heap.size; omega)
        have A3 : NatAt w3 w.heap.size 0 zP := (NatAt.below (w := wr.drew) hA hW3 (by show _ < wr.heap.size; omega))
        have hB3 : Below w.heap.size w w3 := hW.drew.trans (hW3.mono (by show _ ≤ wr.heap.size; omega))
        have l3 := hR3.len
        refine ⟨_, rfl, .inr hS3, ?_⟩
        simp only [Act.put, List.setIfInBounds_toArray, List.set_cons_zero, List.set_cons_succ]
        refine late_store 4 (by kernel_rfl) rfl rfl _ _ rfl rfl w1.heap.size j r rfl rfl i s hS3 ls l3 ?_
        intro w4 hN4 hg4 hs4
        refine ⟨.inl ⟨4, by simp, rfl⟩, ?_⟩
        refine late_done (by kernel_rfl) ?_ _
        refine NoPanic.normal ?_
        have A4 : NatAt w4 w.heap.size 0 zP := A3.grown hg4 (by simp; omega)
        have hB4 : Below w.heap.size w w4 := hB3.grown hg4 hB3.size (by intro k hk; cases hk; omega)
        have hs4' : w1.heap.size + 1 ≤ w4.heap.size := by omega
        have HR4 : Hid (Rep (2 ^ (N - (gk - 19))) j r) := by unfold Hid; rw [← two_up hg (by omega)]; exact hR3
        clear hS hS3 A3 hB3 hW3 hg4 hR3 hN hA hW hs4 hs3
        go_wp2
        go_roundg (gk - 19)
        case measure => omega
        case rel => exact ⟨j, r, by omega, by go_num, HR4, l3, hN4, A4, hB4, hs4'⟩
      · go_wp2_with fail
        refine late_begin [4] (fun w' => NatAt w' w1.heap.size i s) (by kernel_rfl) ?_
        have hS : NatAt wr.drew w1.heap.size i s := hN
        refine late_val 0 (some 10) rfl rfl (by kernel_rfl) (by kernel_rfl) (by kernel_rfl) [3, 4] (by kernel_rfl) noPanic_put rfl (.agg (natC i s)) (fun _ h => run_nat0 _ rfl w1.heap.size rfl i s ls h) hS ?_
        simp only [Act.put, List.setIfInBounds_toArray, List.set_cons_zero, List.set_cons_succ]
        refine late_val 1 (some 11) rfl rfl (by kernel_rfl) (by kernel_rfl) (by kernel_rfl) [2, 3, 4] (by kernel_rfl) noPanic_put rfl (.int .i64 (gk : Int)) (fun _ _ => by go_simp) hS ?_
        simp only [Act.put, List.setIfInBounds_toArray, List.set_cons_zero, List.set_cons_succ]
        refine late_val 2 (some 12) rfl rfl (by kernel_rfl) (by kernel_rfl) (by kernel_rfl) [3, 4] (by kernel_rfl) noPanic_put rfl (.int .i64 ((2 ^ gk : Nat) : Int)) (fun w' _ => shl_exec (t := 3) (s := gk) rfl rfl (z := (gk : Int)) rfl (by omega) (by omega) w') hS ?_
        simp only [Act.put, List.setIfInBounds_toArray, List.set_cons_zero, List.set_cons_succ]
        refine late_call 3 (some 13) (by kernel_rfl) rfl rfl rfl 80 #[.agg (natC i s), .int .i64 ((2 ^ gk : Nat) : Int), .int .i64 0] (by go_simp) _ (timesWide_any ((2 ^ gk : Nat) : Int) 0 wr.drew (2 ^ gk) 0 HR.out hi rfl rfl (two_small gk (by omega)).1 (two_small gk (by omega)).2 (by omega) (by omega)) ?_
        rintro e w3 ⟨j, r, rfl, hR3, hW3⟩
        have hs3 : wr.heap.size ≤ w3.heap.size := hW3.size
        have hS3 : NatAt w3 w1.heap.size i s := hS.below hW3 (by show _ < wr.heap.size; omega)
        have A3 : NatAt w3 w.heap.size 0 zP := (NatAt.below (w := wr.drew) hA hW3 (by show _ < wr.heap.size; omega))
        have hB3 : Below w.heap.size w w3 := hW.drew.trans (hW3.mono (by show _ ≤ wr.heap.size; omega))
        have l3 := hR3.len
        refine ⟨_, rfl, .inr hS3, ?_⟩
        simp only [Act.put, List.setIfInBounds_toArray, List.set_cons_zero, List.set_cons_succ]
        refine late_store 4 (by kernel_rfl) rfl rfl _ _ rfl rfl w1.heap.size j r rfl rfl i s hS3 ls l3 ?_
        intro w4 hN4 hg4 hs4
        refine ⟨.inl ⟨4, by simp, rfl⟩, ?_⟩
        refine late_done (by kernel_rfl) ?_ _
        refine NoPanic.normal ?_
        have A4 : NatAt w4 w.heap.size 0 zP := A3.grown hg4 (by simp; omega)
        have hB4 : Below w.heap.size w w4 := hB3.grown hg4 hB3.size (by intro k hk; cases hk; omega)
        have hs4' : w1.heap.size + 1 ≤ w4.heap.size := by omega
        have HR4 : Hid (Rep (2 ^ (N - (gk - gk))) j r) := by unfold Hid; rw [← two_up hg (by omega)]; exact hR3
        clear hS hS3 A3 hB3 hW3 hg4 hR3 hN hA hW hs4 hs3
        go_wp2
        go_roundg (gk - gk)
        case measure => omega
        case rel => exact ⟨j, r, by omega, by go_num, HR4, l3, hN4, A4, hB4, hs4'⟩
    · have hg0 : gk = 0 := by omega
      subst hg0
      go_wp2_with (first | (refine load_nat rfl _ rfl w1.heap.size rfl i s hN ls ?_) | (refine store_nat rfl _ _ rfl rfl w.heap.size i s rfl rfl 0 zP hA zP_len ls ?_; intro w3 hN3 hg3 hs3))
      refine bodyPost_ret (v := .agg (natC i s)) (res_nat Tryd.results69 _ _ w.heap.size _ _ rfl hN3 ls) rfl ⟨i, s, rfl, HR.out, ?_⟩
      exact hW.grown hg3 hW.size (by intro k hk; cases hk; omega)
end Go.Proofs.YteglkbgcgookhaaDoor

/-
  What manyTwos of impl answers.
-/
namespace Go.Proofs.YteglkbgcgookhaaDoor
open Go.RowKit
set_option linter.unusedVariables false

theorem cmpI_nat (a b : Nat) : cmpI (a : Int) (b : Int) = cmpN a b := by
  unfold cmpI cmpN
  by_cases h1 : a < b
  · rw [if_pos h1, if_pos (by omega)]
  · by_cases h2 : a = b
    · rw [if_neg h1, if_pos h2, if_neg (by omega), if_neg (by omega)]
    · rw [if_neg h1, if_neg h2, if_neg (by omega), if_pos (by omega)]
theorem Rep.cnt_le' {n k m j : Nat} {p q : List Int} (h : Rep n k p) (g : Rep m j q) (hle : n ≤ m) : k ≤ j := by
  rcases Nat.lt_or_ge j k with h1 | h1
  · have := g.cnt_lt h h1
    omega
  · exact h1

end Go.Proofs.YteglkbgcgookhaaDoor

/-
  What nearestRank of impl answers: the rank of the nearest real.
-/
namespace Go.Proofs.YteglkbgcgookhaaDoor
open Go.RowKit
set_option linter.unusedVariables false

theorem qk_lt_pow {N D k : Nat} (a : Nat) (hN : N < 2 ^ a) (hD : 0 < D) (hk : a + 150 ≤ k + 53) : qk N D k < 9007199254740992 := by
  unfold qk
  rw [Nat.div_lt_iff_lt_mul (Nat.mul_pos hD (Nat.two_pow_pos k))]
  have h1 : N * 2 ^ 150 < 2 ^ a * 2 ^ 150 := Nat.mul_lt_mul_of_pos_right hN (Nat.two_pow_pos _)
  have h2 : 2 ^ a * 2 ^ 150 ≤ 2 ^ 53 * 2 ^ k := by
    rw [← Nat.pow_add, ← Nat.pow_add]
    exact Nat.pow_le_pow_right (by decide) (by omega)
  have h3 : (2 : Nat) ^ 53 = 9007199254740992 := by decide
  rw [h3] at h2
  have h4 : 9007199254740992 * 2 ^ k ≤ 9007199254740992 * (D * 2 ^ k) := Nat.mul_le_mul_left _ (Nat.le_mul_of_pos_left _ hD)
  omega
/-- There is one that fits. -/
theorem fit_exists {N D : Nat} : ∀ b : Nat, qk N D b < 9007199254740992 → ∃ E, E ≤ b ∧ Fit N D E
  | 0, h => ⟨0, Nat.le_refl _, h, .inr rfl⟩
  | b + 1, h => by
    by_cases h1 : qk N D b < 9007199254740992
    · obtain ⟨E, hE, hf⟩ := fit_exists b h1
      exact ⟨E, by omega, hf⟩
    · refine ⟨b + 1, Nat.le_refl _, h, .inl ?_⟩
      rw [qk_succ]
      omega
theorem Fit.up {N D E K : Nat} (h : Fit N D E) (hK : 9007199254740992 ≤ qk N D K) : K < E := by
  rcases Nat.lt_or_ge K E with h1 | h1
  · exact h1
  · have := qk_anti (N := N) (D := D) h1
    have := h.1
    omega
theorem Fit.down {N D E K : Nat} (h : Fit N D E) (hK : qk N D K < 4503599627370496) (h0 : 0 < K) : E < K := by
  rcases Nat.lt_or_ge E K with h1 | h1
  · exact h1
  · have := qk_anti (N := N) (D := D) h1
    rcases h.2 with h2 | h2 <;> omega
theorem rep_lead {n k : Nat} {p : List Int} (h : Rep n k p) (hn : n < 9007199254740992) : (p.getD (0 + 2) 0 * 1000000 + p.getD (0 + 1) 0) * 1000000 + p.getD 0 0 = (n : Int) := by
  have hk : k ≤ 3 := by
    rcases Nat.lt_or_ge 3 k with h1 | h1
    · have h2 := h.geN (by omega)
      have h3 : 1000000 ^ 3 ≤ 1000000 ^ (k - 1) := Nat.pow_le_pow_right (by decide) (by omega)
      have h4 : (1000000 : Nat) ^ 3 = 1000000000000000000 := by decide
      omega
    · exact h1
  obtain ⟨N', h0, h1, h2⟩ := lead_split h 0 (by omega) (by omega)
  simp at h1 h2 ⊢
  omega
theorem cmpN_neg {a b : Nat} (h : a < b) : cmpN a b = -1 := by unfold cmpN; rw [if_pos h]
theorem cmpN_ge {a b : Nat} (h : b ≤ a) : 0 ≤ cmpN a b := by unfold cmpN; rw [if_neg (by omega)]; split <;> omega
theorem cmpN_lt {a b : Nat} : cmpN a b < 0 ↔ a < b := by
  unfold cmpN
  split
  · omega
  · split <;> omega
theorem near_zero (m : Nat) (hm : m ≠ 0) : Near 0 m 0 := by
  refine ⟨0, ⟨?_, .inr rfl⟩, ?_⟩
  · unfold qk; simp
  · have h1 : qk 0 m 0 = 0 := by unfold qk; simp
    have h2 : ck 0 m 0 = -1 := by
      unfold ck rk
      rw [Nat.zero_mul, Nat.zero_mod, Nat.mul_zero, Nat.pow_zero, Nat.mul_one]
      exact cmpN_neg (Nat.pos_of_ne_zero hm)
    unfold manR
    rw [h1, h2]
    rfl

end Go.Proofs.YteglkbgcgookhaaDoor
