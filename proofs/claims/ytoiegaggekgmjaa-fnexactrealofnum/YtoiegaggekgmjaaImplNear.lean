/-
  What nearestRank of impl answers: the rank of the nearest real.
-/
import Derived.Test.YtoiegaggekgmjaaImplMany
namespace Go.Proofs.Ytoiegaggekgmjaa
open Go.RowKit
set_option linter.unusedVariables false

theorem qk_lt_pow {N D k : Nat} (a : Nat) (hN : N < 2 ^ a) (hD : 0 < D) (hk : a + 150 ≤ k + 53) : qk N D k < 9007199254740992 := by
  unfold qk
  rw [Nat.div_lt_iff_lt_mul (Nat.mul_pos hD (Nat.two_pow_pos k))]
  have h1 : N * 2 ^ 150 < 2 ^ a * 2 ^ 150 := Nat.mul_lt_mul_of_pos_right hN (Nat.two_pow_pos _)
  have h2 : 2 ^ a * 2 ^ 150 ≤ 2 ^ 53 * 2 ^ k := by
    rw [← Nat.pow_add, ← Nat.pow_add]
    exact Nat.pow_le_pow_right (by decide) (by omega)
  have h3 : (2 : Nat) ^ 53 = 9007199254740992 := by decide
  rw [h3] at h2
  have h4 : 9007199254740992 * 2 ^ k ≤ 9007199254740992 * (D * 2 ^ k) := Nat.mul_le_mul_left _ (Nat.le_mul_of_pos_left _ hD)
  omega
/-- There is one that fits. -/
theorem fit_exists {N D : Nat} : ∀ b : Nat, qk N D b < 9007199254740992 → ∃ E, E ≤ b ∧ Fit N D E
  | 0, h => ⟨0, Nat.le_refl _, h, .inr rfl⟩
  | b + 1, h => by
    by_cases h1 : qk N D b < 9007199254740992
    · obtain ⟨E, hE, hf⟩ := fit_exists b h1
      exact ⟨E, by omega, hf⟩
    · refine ⟨b + 1, Nat.le_refl _, h, .inl ?_⟩
      rw [qk_succ]
      omega
theorem Fit.up {N D E K : Nat} (h : Fit N D E) (hK : 9007199254740992 ≤ qk N D K) : K < E := by
  rcases Nat.lt_or_ge K E with h1 | h1
  · exact h1
  · have := qk_anti (N := N) (D := D) h1
    have := h.1
    omega
theorem Fit.down {N D E K : Nat} (h : Fit N D E) (hK : qk N D K < 4503599627370496) (h0 : 0 < K) : E < K := by
  rcases Nat.lt_or_ge E K with h1 | h1
  · exact h1
  · have := qk_anti (N := N) (D := D) h1
    rcases h.2 with h2 | h2 <;> omega
theorem rep_lead {n k : Nat} {p : List Int} (h : Rep n k p) (hn : n < 9007199254740992) : (p.getD (0 + 2) 0 * 1000000 + p.getD (0 + 1) 0) * 1000000 + p.getD 0 0 = (n : Int) := by
  have hk : k ≤ 3 := by
    rcases Nat.lt_or_ge 3 k with h1 | h1
    · have h2 := h.geN (by omega)
      have h3 : 1000000 ^ 3 ≤ 1000000 ^ (k - 1) := Nat.pow_le_pow_right (by decide) (by omega)
      have h4 : (1000000 : Nat) ^ 3 = 1000000000000000000 := by decide
      omega
    · exact h1
  obtain ⟨N', h0, h1, h2⟩ := lead_split h 0 (by omega) (by omega)
  simp at h1 h2 ⊢
  omega
theorem cmpN_neg {a b : Nat} (h : a < b) : cmpN a b = -1 := by unfold cmpN; rw [if_pos h]
theorem cmpN_ge {a b : Nat} (h : b ≤ a) : 0 ≤ cmpN a b := by unfold cmpN; rw [if_neg (by omega)]; split <;> omega
theorem cmpN_lt {a b : Nat} : cmpN a b < 0 ↔ a < b := by
  unfold cmpN
  split
  · omega
  · split <;> omega
theorem near_zero (m : Nat) (hm : m ≠ 0) : Near 0 m 0 := by
  refine ⟨0, ⟨?_, .inr rfl⟩, ?_⟩
  · unfold qk; simp
  · have h1 : qk 0 m 0 = 0 := by unfold qk; simp
    have h2 : ck 0 m 0 = -1 := by
      unfold ck rk
      rw [Nat.zero_mul, Nat.zero_mod, Nat.mul_zero, Nat.pow_zero, Nat.mul_one]
      exact cmpN_neg (Nat.pos_of_ne_zero hm)
    unfold manR
    rw [h1, h2]
    rfl

set_option maxHeartbeats 4000000 in
set_option maxRecDepth 100000 in
theorem nearestRank_any {n m k j : Nat} {p q : List Int} (w : World) (hP : Rep n k p) (hQ : Rep m j q) (hk : k ≤ 100) (hj : j ≤ 100) (hn : n < 2 ^ 1000) (hm : m ≠ 0) :
    Calls Try.prog 63 #[.agg (natC k p), .agg (natC j q)] w fun e w' => (∃ (r : Int) (R : Nat), e = .returned (.int .i64 r) ∧ r = (R : Int) ∧ Near n m R ∧ r ≤ 9000000000000000000) ∧ Below w.heap.size w w' := by
  have hz := zero_nat.1
  have lp := hP.len
  have lq := hQ.len
  have A := (NatAt.new w k p).old (.cells (natC j q) 43)
  have B := NatAt.new (w.alloc (.cells (natC k p) 43)) j q
  have hB : Below w.heap.size w ((w.alloc (.cells (natC k p) 43)).alloc (.cells (natC j q) 43)) := ((Below.refl _ _).alloc (Nat.le_refl _) _).alloc (by simp) _
  simp only [World.size_alloc] at B
  have a0 := A.c0
  have HP := hide (And.intro hP hQ)
  have HM := hide hm
  obtain ⟨E, hE, hF⟩ : ∃ E, E ≤ 1100 ∧ Fit n m E := fit_exists 1100 (qk_lt_pow 1000 hn (Nat.pos_of_ne_zero hm) (by omega))
  have HF := hide hF
  clear hm hF hn
  by_cases hk0 : (k : Int) = 0
  · have hkb : ((k : Int) == 0) = true := by simpa using hk0
    have hn0 : n = 0 := hP.zero_iff.1 (by omega)
    subst hn0
    have HN := hide (near_zero m HM.out)
    clear hP hQ hk0
    go_enter Try.func63, Try.ntmps63
    go_wp2
    go_ret
    exact ⟨⟨0, 0, rfl, rfl, HN.out, by omega⟩, hB⟩
  · have hkb : ((k : Int) == 0) = false := by simpa using hk0
    clear hP hQ
    go_enter Try.func63, Try.ntmps63
    have hws : ((w.alloc (.cells (natC k p) 43)).alloc (.cells (natC j q) 43)).heap.size = w.heap.size + 1 + 1 := by simp
    generalize hw0 : (w.alloc (.cells (natC k p) 43)).alloc (.cells (natC j q) 43) = w0 at A B hB a0 hws
    go_wp2_with fail
    clear hw0 a0
    refine (natOf_big 4503599627370496 4503599627370496 w0 rfl (by omega) (by omega)).mono ?_
    rintro e w1 ⟨i1, r1, rfl, hR1, hW1⟩
    have l1 := hR1.len
    have HR1 := hide hR1
    have hs1 := hW1.size
    go_wp2_with fail
    refine (natOf_big 9007199254740992 9007199254740992 w1 rfl (by omega) (by omega)).mono ?_
    rintro e w2 ⟨i2, r2, rfl, hR2, hW2⟩
    have l2 := hR2.len
    have HR2 := hide hR2
    have hs2 := hW2.size
    have A2 : NatAt w2 w.heap.size k p := (A.below hW1 (by omega)).below hW2 (by omega)
    have B2 : NatAt w2 (w.heap.size + 1) j q := (B.below hW1 (by omega)).below hW2 (by omega)
    have hB2 : Below w.heap.size w w2 := (hB.trans (hW1.mono (by omega))).trans (hW2.mono (by omega))
    have hs2' : w.heap.size + 1 + 1 ≤ w2.heap.size := by omega
    have C2 := (NatAt.new w2 0 zP).old (.cells (natC 0 zP) 43)
    have D2 := NatAt.new (w2.alloc (.cells (natC 0 zP) 43)) 0 zP
    simp only [World.size_alloc] at D2
    clear A B hB hW1 hW2 hs1 hs2 hws hR1 hR2
    go_wp2_with (first | (refine store_nat rfl (.tmp 5) _ rfl rfl w2.heap.size i1 r1 rfl rfl 0 zP C2 zP_len l1 ?_; intro w3 hN3 hg3 hs3) | (refine store_nat rfl (.tmp 6) _ rfl rfl (w2.heap.size + 1) i2 r2 rfl rfl 0 zP (D2.grown hg3 (by simp)) zP_len l2 ?_; intro w4 hN4 hg4 hs4) | (refine load_nat rfl (.tmp 2) rfl w.heap.size rfl k p ((((A2.old _).old _).grown hg3 (by simp; omega)).grown hg4 (by simp; omega)) lp ?_) | (refine load_nat rfl (.tmp 3) rfl (w.heap.size + 1) rfl j q ((((B2.old _).old _).grown hg3 (by simp; omega)).grown hg4 (by simp; omega)) lq ?_))
    have A4 : NatAt w4 w.heap.size k p := (((A2.old _).old _).grown hg3 (by simp; omega)).grown hg4 (by simp; omega)
    have B4 : NatAt w4 (w.heap.size + 1) j q := (((B2.old _).old _).grown hg3 (by simp; omega)).grown hg4 (by simp; omega)
    have C4 : NatAt w4 w2.heap.size i1 r1 := hN3.grown hg4 (by simp)
    have hB3 : Below w.heap.size w w3 := ((hB2.alloc hB2.size _).alloc (by simp; have := hB2.size; omega) _).grown hg3 (by simp; have := hB2.size; omega) (by intro k hk; cases hk; have := hB2.size; omega)
    have hB4 : Below w.heap.size w w4 := hB3.grown hg4 hB3.size (by intro k hk; cases hk; omega)
    have hs4' : w2.heap.size + 1 + 1 ≤ w4.heap.size := by rw [hs4, hs3]; simp
    clear A2 B2 hB2 C2 D2 hN3 hg3 hs3 hB3 hg4 hs4
    refine (guessExp_any w4 HP.out.1 HP.out.2 (by omega) (by omega)).mono ?_
    rintro e w5 ⟨⟨z, rfl, hz1, hz2⟩, hW5⟩
    have A5 : NatAt w5 w.heap.size k p := A4.below hW5 (by omega)
    have B5 : NatAt w5 (w.heap.size + 1) j q := B4.below hW5 (by omega)
    have C5 : NatAt w5 w2.heap.size i1 r1 := C4.below hW5 (by omega)
    have D5 : NatAt w5 (w2.heap.size + 1) i2 r2 := hN4.below hW5 (by omega)
    have hB5 : Below w.heap.size w w5 := hB4.trans (hW5.mono (by omega))
    have hs5 : w2.heap.size + 1 + 1 ≤ w5.heap.size := by have := hW5.size; omega
    clear A4 B4 C4 hN4 hB4 hW5 hs4'
    obtain ⟨K0, hK0⟩ : ∃ K0 : Nat, z + 150 = (K0 : Int) := ⟨(z + 150).toNat, by omega⟩
    have HK0 := hide hK0
    clear hK0
    go_wp2_with fail
    go_loopg [7] ((K0 - E) + (E - K0)) (fun g v7 wr => ∃ (z : Int) (K : Nat), g = (K - E) + (E - K) ∧ v7 = .int .i64 z ∧ Hid (z + 150 = (K : Int)) ∧ -150 ≤ z ∧ z ≤ 972 ∧ NatAt wr w.heap.size k p ∧ NatAt wr (w.heap.size + 1) j q ∧ NatAt wr w2.heap.size i1 r1 ∧ NatAt wr (w2.heap.size + 1) i2 r2 ∧ Below w.heap.size w wr ∧ w2.heap.size + 1 + 1 ≤ wr.heap.size)
    case atStart => exact ⟨z, K0, rfl, rfl, HK0, hz1, hz2, A5, B5, C5, D5, hB5, hs5⟩
    case round =>
      obtain ⟨z, K, HG, rfl, HK, hz1, hz2, hA, hBb, hC, hD, hW, hsr⟩ := hrel
      have HGG := hide HG
      clear A5 B5 C5 D5 hB5 hs5 HK0 HG
      go_wp2_with (first | (refine load_nat rfl (.tmp 2) rfl w.heap.size rfl k p hA lp ?_) | (refine load_nat rfl (.tmp 3) rfl (w.heap.size + 1) rfl j q hBb lq ?_))
      refine (manyTwos_any z wr HP.out.1 HP.out.2 hk hj HM.out HK.out (by omega)).mono ?_
      rintro e w6 ⟨i6, r6, rfl, hR6, hW6⟩
      have l6 := hR6.len
      have HR6 := hide hR6
      have hA6 : NatAt w6 w.heap.size k p := hA.below hW6 (by omega)
      have hB6 : NatAt w6 (w.heap.size + 1) j q := hBb.below hW6 (by omega)
      have hC6 : NatAt w6 w2.heap.size i1 r1 := hC.below hW6 (by omega)
      have hD6 : NatAt w6 (w2.heap.size + 1) i2 r2 := hD.below hW6 (by omega)
      have hW6' : Below w.heap.size w w6 := hW.trans (hW6.mono (by omega))
      have hs6 : w2.heap.size + 1 + 1 ≤ w6.heap.size := by have := hW6.size; omega
      have E6 := NatAt.new w6 0 zP
      clear hA hBb hC hD hW hW6 hsr hR6
      obtain ⟨c, hc⟩ : ∃ c, c = ck n m K := ⟨_, rfl⟩
      rw [← hc]
      have HC := hide hc
      clear hc
      go_wp2_with (first | (refine store_nat rfl (.tmp 8) _ rfl rfl w6.heap.size i6 r6 rfl rfl 0 zP E6 zP_len l6 ?_; intro w7 hN7 hg7 hs7) | (refine load_nat rfl (.tmp 8) rfl w6.heap.size rfl i6 r6 hN7 l6 ?_) | (refine load_nat rfl (.tmp 6) rfl (w2.heap.size + 1) rfl i2 r2 ((hD6.old _).grown hg7 (by simp; omega)) l2 ?_))
      have hA7 : NatAt w7 w.heap.size k p := (hA6.old _).grown hg7 (by simp; omega)
      have hB7 : NatAt w7 (w.heap.size + 1) j q := (hB6.old _).grown hg7 (by simp; omega)
      have hC7 : NatAt w7 w2.heap.size i1 r1 := (hC6.old _).grown hg7 (by simp; omega)
      have hD7 : NatAt w7 (w2.heap.size + 1) i2 r2 := (hD6.old _).grown hg7 (by simp; omega)
      have hW7 : Below w.heap.size w w7 := (hW6'.alloc hW6'.size _).grown hg7 (by simp; have := hW6'.size; omega) (by intro k hk; cases hk; have := hW6'.size; omega)
      have hs7' : w6.heap.size + 1 ≤ w7.heap.size := by rw [hs7]; simp
      clear hA6 hB6 hC6 hD6 hW6' E6 hg7 hs7
      refine (compare_rep w7 HR6.out HR2.out).mono ?_
      rintro e w8 ⟨rfl, hW8⟩
      have hs8 := hW8.size
      have hA8 : NatAt w8 w.heap.size k p := hA7.below hW8 (by omega)
      have hB8 : NatAt w8 (w.heap.size + 1) j q := hB7.below hW8 (by omega)
      have hC8 : NatAt w8 w2.heap.size i1 r1 := hC7.below hW8 (by omega)
      have hD8 : NatAt w8 (w2.heap.size + 1) i2 r2 := hD7.below hW8 (by omega)
      have hE8 : NatAt w8 w6.heap.size i6 r6 := hN7.below hW8 (by omega)
      have hBl8 : Below w.heap.size w w8 := hW7.trans (hW8.mono (by omega))
      have hs8' : w6.heap.size + 1 ≤ w8.heap.size := by omega
      rw [cmpI_nat]
      clear hA7 hB7 hC7 hD7 hW7 hN7 hW8 hs7' hs8
      by_cases h1 : 9007199254740992 ≤ qk n m K
      · obtain ⟨d, hd⟩ : ∃ d, d = cmpN (qk n m K) 9007199254740992 := ⟨_, rfl⟩
        rw [← hd]
        have hd0 : 0 ≤ d := by rw [hd]; exact cmpN_ge h1
        have HE := hide (HF.out.up h1)
        have hKE : K < E := HF.out.up h1
        have hz3 : z + 1 ≤ 972 := by have := HK.out; omega
        clear hd h1
        go_wp2
        go_roundg ((K + 1 - E) + (E - (K + 1)))
        case measure => have := HGG.out; omega
        case rel => exact ⟨z + 1, K + 1, rfl, by go_num, by unfold Hid; have := HK.out; omega, by omega, by omega, hA8, hB8, hC8, hD8, hBl8, by omega⟩
      · have hq1 : qk n m K < 9007199254740992 := by omega
        rw [cmpN_neg hq1]
        go_wp2_with (first | (refine load_nat rfl (.tmp 8) rfl w6.heap.size rfl i6 r6 hE8 l6 ?_) | (refine load_nat rfl (.tmp 5) rfl w2.heap.size rfl i1 r1 hC8 l1 ?_))
        refine (compare_rep w8 HR6.out HR1.out).mono ?_
        rintro e w9 ⟨rfl, hW9⟩
        have hs9 := hW9.size
        have hA9 : NatAt w9 w.heap.size k p := hA8.below hW9 (by omega)
        have hB9 : NatAt w9 (w.heap.size + 1) j q := hB8.below hW9 (by omega)
        have hC9 : NatAt w9 w2.heap.size i1 r1 := hC8.below hW9 (by omega)
        have hD9 : NatAt w9 (w2.heap.size + 1) i2 r2 := hD8.below hW9 (by omega)
        have hE9 : NatAt w9 w6.heap.size i6 r6 := hE8.below hW9 (by omega)
        have hBl9 : Below w.heap.size w w9 := hBl8.trans (hW9.mono (by omega))
        have hs9' : w6.heap.size + 1 ≤ w9.heap.size := by omega
        rw [cmpI_nat]
        clear hA8 hB8 hC8 hD8 hE8 hBl8 hW9 hs8' hs9 h1
        by_cases h2 : qk n m K < 4503599627370496 ∧ -150 < z
        · rw [cmpN_neg h2.1]
          have hKE : E < K := HF.out.down h2.1 (by have := HK.out; have := h2.2; omega)
          have hz3 := h2.2
          clear h2 hq1
          go_wp2
          go_roundg ((K - 1 - E) + (E - (K - 1)))
          case measure => have := HGG.out; omega
          case rel => exact ⟨z - 1, K - 1, rfl, by go_num, by unfold Hid; have := HK.out; omega, by omega, by omega, hA9, hB9, hC9, hD9, hBl9, by omega⟩
        · have HFK : Hid (Fit n m K) := ⟨hq1, by have := HK.out; omega⟩
          obtain ⟨d, hd⟩ : ∃ d, d = cmpN (qk n m K) 4503599627370496 := ⟨_, rfl⟩
          rw [← hd]
          have hdz : ¬ (d < 0 ∧ -150 < z) := by
            rintro ⟨h3, h4⟩
            rw [hd] at h3
            exact h2 ⟨cmpN_lt.1 h3, h4⟩
          clear hd h2
          obtain ⟨Y, hY⟩ : ∃ Y, (z + 150) * 4503599627370496 = Y := ⟨_, rfl⟩
          have hY0 : 0 ≤ Y := by omega
          have hY1 : Y ≤ 5053038781909696512 := by omega
          have HY := hide hY
          have hcase : (d < 0 ∧ z ≤ -150) ∨ 0 ≤ d := by omega
          clear hdz
          have HL := hideT' (fun w' => lead_any 0 3 w' HR6.out rfl (by omega))
          have HLe := hideT' (rep_lead HR6.out hq1)
          obtain ⟨y, hy⟩ : ∃ y : Int, y = (qk n m K : Int) := ⟨_, rfl⟩
          rw [← hy] at HLe
          rw [HLe.out] at HL
          have hy0 : 0 ≤ y := by omega
          have hy1 : y < 9007199254740992 := by omega
          have Hy := hide hy
          have hrem : y.tmod 2 = y % 2 := Int.tmod_eq_emod_of_nonneg hy0
          clear hy hq1 HLe
          rcases hcase with ⟨h3, h4⟩ | h3
          all_goals
            go_wp2_with (refine load_nat rfl (.tmp 8) rfl w6.heap.size rfl i6 r6 hE9 l6 ?_)
            refine (HL.out w9).mono ?_
            rintro e w10 ⟨rfl, hW10⟩
            have hBl10 : Below w.heap.size w w10 := hBl9.trans (hW10.mono (by omega))
            clear hA9 hB9 hC9 hD9 hE9 hBl9 hW10
            by_cases hc0 : 0 < c
            · have HRR : Hid (Y + (y + 1) = ((K * 4503599627370496 + manR n m K : Nat) : Int)) := by
                unfold Hid manR
                have e1 := HY.out
                have e2 := HK.out
                have e3 := Hy.out
                have e4 : ((upR (qk n m K) (ck n m K) : Nat) : Int) = y + 1 := by
                  rw [← HC.out]
                  unfold upR
                  rw [if_pos (by have := Hy.out; omega)]
                  omega
                omega
              go_wp2
              go_ret
              exact ⟨⟨_, _, rfl, HRR.out, ⟨K, HFK.out, rfl⟩, by omega⟩, hBl10⟩
            · by_cases hc1 : c = 0
              · subst hc1
                by_cases hp : y % 2 = 1
                · have HRR : Hid (Y + (y + 1) = ((K * 4503599627370496 + manR n m K : Nat) : Int)) := by
                    unfold Hid manR
                    have e1 := HY.out
                    have e2 := HK.out
                    have e3 := Hy.out
                    have e4 : ((upR (qk n m K) (ck n m K) : Nat) : Int) = y + 1 := by
                      rw [← HC.out]
                      unfold upR
                      rw [if_pos (by have := Hy.out; omega)]
                      omega
                    omega
                  go_wp2
                  go_ret
                  exact ⟨⟨_, _, rfl, HRR.out, ⟨K, HFK.out, rfl⟩, by omega⟩, hBl10⟩
                · have hp0 : y % 2 = 0 := by omega
                  have HRR : Hid (Y + y = ((K * 4503599627370496 + manR n m K : Nat) : Int)) := by
                    unfold Hid manR
                    have e1 := HY.out
                    have e2 := HK.out
                    have e3 := Hy.out
                    have e4 : ((upR (qk n m K) (ck n m K) : Nat) : Int) = y := by
                      rw [← HC.out]
                      unfold upR
                      rw [if_neg (by have := Hy.out; omega)]
                      omega
                    omega
                  go_wp2
                  go_ret
                  exact ⟨⟨_, _, rfl, HRR.out, ⟨K, HFK.out, rfl⟩, by omega⟩, hBl10⟩
              · have hc2 : (c == 0) = false := by simpa using hc1
                have HRR : Hid (Y + y = ((K * 4503599627370496 + manR n m K : Nat) : Int)) := by
                  unfold Hid manR
                  have e1 := HY.out
                  have e2 := HK.out
                  have e3 := Hy.out
                  have e4 : ((upR (qk n m K) (ck n m K) : Nat) : Int) = y := by
                    rw [← HC.out]
                    unfold upR
                    rw [if_neg (by have := Hy.out; omega)]
                    omega
                  omega
                go_wp2
                go_ret
                exact ⟨⟨_, _, rfl, HRR.out, ⟨K, HFK.out, rfl⟩, by omega⟩, hBl10⟩
end Go.Proofs.Ytoiegaggekgmjaa
