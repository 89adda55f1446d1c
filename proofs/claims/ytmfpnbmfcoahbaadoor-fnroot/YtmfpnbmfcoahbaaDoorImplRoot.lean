/-
  What root of impl's nats and impl.SqrtNat answer.
-/
import Derived.Test.YtmfpnbmfcoahbaaDoorImplUp
import Derived.Test.YtmfpnbmfcoahbaaDoorFloat
import Derived.Test.YtmfpnbmfcoahbaaDoorSpecRoot
import Derived.Test.YtmfpnbmfcoahbaaDoorImplAdd
import Derived.Test.YtmfpnbmfcoahbaaDoorPkImplDigits
namespace Go.Proofs.YtmfpnbmfcoahbaaDoor
open Go.RowKit
set_option linter.unusedVariables false

theorem Len.le {n L T : Nat} (h : Len n L) (hT : 1 ≤ T) (hn : n < 10 ^ T) : L ≤ T := by
  by_cases h0 : n = 0
  · rw [h.2.2.2 h0]; exact hT
  · have h1 := h.2.2.1 h0
    have h2 : 10 ^ (L - 1) < 10 ^ T := Nat.lt_of_le_of_lt h1 hn
    have h3 := (Nat.pow_lt_pow_iff_right (by decide : 1 < 10)).1 h2
    omega
theorem pow_ten_lt (h T : Nat) (hT : h < T) : 10 ^ h < 10 ^ T := Nat.pow_lt_pow_right (by decide) hT
theorem root_start {n L : Nat} (h : n < 10 ^ L) : n < (10 ^ ((L + 1) / 2) + 1) * (10 ^ ((L + 1) / 2) + 1) := by
  have h1 : 10 ^ L ≤ 10 ^ ((L + 1) / 2 + (L + 1) / 2) := Nat.pow_le_pow_right (by decide) (by omega)
  rw [Nat.pow_add] at h1
  have h2 : 10 ^ ((L + 1) / 2) * 10 ^ ((L + 1) / 2) ≤ (10 ^ ((L + 1) / 2) + 1) * (10 ^ ((L + 1) / 2) + 1) := Nat.mul_le_mul (Nat.le_succ _) (Nat.le_succ _)
  omega

set_option maxHeartbeats 4000000 in
set_option maxRecDepth 100000 in
theorem root_any {n k : Nat} {p : List Int} (w : World) (hP : Rep n k p) (hn : n < 10 ^ 600) (hT : Tab w.heap.size w) :
    Calls Tryd.prog 23 #[.agg (natC k p)] w fun e w' => ∃ (s i : Nat) (r : List Int), e = .returned (.agg (natC i r)) ∧ Rep s i r ∧ s * s ≤ n ∧ n < (s + 1) * (s + 1) ∧ Below w.heap.size w w' := by
  have hz := zero_nat.1
  have hp := hP.len
  have A := (NatAt.new w k p).old (.cells (natC 0 zP) 46)
  have B := NatAt.new (w.alloc (.cells (natC k p) 46)) 0 zP
  have hB : Below w.heap.size w ((w.alloc (.cells (natC k p) 46)).alloc (.cells (natC 0 zP) 46)) := ((Below.refl _ _).alloc (Nat.le_refl _) _).alloc (by simp) _
  simp only [World.size_alloc] at B
  have a0 := A.c0
  by_cases hk0 : k = 0
  · have hn0 : n = 0 := hP.zero_iff.1 hk0
    have HR : Hid (Rep n k p ∧ n * n ≤ n ∧ n < (n + 1) * (n + 1)) := ⟨hP, by rw [hn0]; exact Nat.le_refl _, by rw [hn0]; decide⟩
    have hzz : ((k : Int) == 0) = true := by simp [hk0]
    clear hP hn0 hk0 hn hT
    go_enter Tryd.func23, Tryd.ntmps23
    go_wp2_with (first | (refine load_nat rfl _ rfl w.heap.size rfl k p A hp ?_) | (refine store_nat rfl _ _ rfl rfl (w.heap.size + 1) k p rfl rfl 0 zP B zP_len hp ?_; intro w2 hN2 hg2 hs2))
    refine bodyPost_ret (v := .agg (natC k p)) (res_nat Tryd.results23 _ _ (w.heap.size + 1) _ _ rfl hN2 hp) rfl ⟨n, k, p, rfl, HR.out.1, HR.out.2.1, HR.out.2.2, ?_⟩
    exact hB.grown hg2 (by simp; omega) (by intro k hk; cases hk; omega)
  · have hne : ((k : Int) == 0) = false := by simp; omega
    have hn0 : 0 < n := Nat.pos_of_ne_zero (fun h => hk0 (hP.zero_iff.2 h))
    have hk100 : k ≤ 100 := hP.fits.2 hn
    have HP := hide hP
    have HN : Hid (0 < n ∧ n < 10 ^ 600) := ⟨hn0, hn⟩
    have HT := hide hT
    clear hP hk0 hn0 hn hT
    go_enter Tryd.func23, Tryd.ntmps23
    go_wp2_with fail
    clear a0
    refine float_begin (fun w' => NatAt w' w.heap.size k p) 6 3 46 (natC 0 zP) (w.heap.size + 1 + 1) 7 (by kernel_rfl) rfl ?_
    have hS : NatAt ((w.alloc (.cells (natC k p) 46)).alloc (.cells (natC 0 zP) 46)).drew w.heap.size k p := A
    refine float_val 1 13 rfl rfl (by kernel_rfl) (by kernel_rfl) (by kernel_rfl) (by kernel_rfl) (by kernel_rfl) noPanic_put (fun _ => rfl) (by decide) (by decide) (.agg (natC k p)) (fun _ h => run_nat0 _ rfl w.heap.size rfl k p hp h) (fun _ => fun _ h => run_nat0 _ rfl w.heap.size rfl k p hp h) (fun _ h => NatAt.below hS h (by simp; omega)) ?_
    simp only [Act.put, List.setIfInBounds_toArray, List.set_cons_zero, List.set_cons_succ]
    refine float_call 0 12 rfl rfl rfl rfl rfl (fun _ => rfl) (fun _ => rfl) (by kernel_rfl) (by kernel_rfl) (by decide) (by decide) hz (by simp) 36 #[.int .i64 1] (fun _ => by go_simp) (fun _ _ => by go_simp) (fun _ h => NatAt.below hS h (by simp; omega)) _ (fun w' _ => natOf_any 1 1 w' rfl (by omega) (by omega)) ?_
    rintro w0 e w1 hW0 ⟨i1, r1, rfl, hR1, hW1'⟩
    have hW1 : Below ((w.alloc (.cells (natC k p) 46)).alloc (.cells (natC 0 zP) 46)).drew.heap.size ((w.alloc (.cells (natC k p) 46)).alloc (.cells (natC 0 zP) 46)).drew w1 := hW0.trans (hW1'.mono hW0.size)
    have hS1 : NatAt w1 w.heap.size k p := NatAt.below hS hW1 (by simp; omega)
    have hB1 : Below w.heap.size w w1 := hB.drew.trans (hW1.mono (by simp; omega))
    have hs1 : w.heap.size + 1 + 1 ≤ w1.heap.size := by have := hW1.size; simpa using this
    have hrl1 := hR1.len
    have B1 : NatAt w1 (w.heap.size + 1) 0 zP := NatAt.below (w := ((w.alloc (.cells (natC k p) 46)).alloc (.cells (natC 0 zP) 46)).drew) B hW1 (by simp)
    refine ⟨_, rfl, hW1', ?_⟩
    simp only [Act.put, List.setIfInBounds_toArray, List.set_cons_zero, List.set_cons_succ]
    refine float_call 2 14 rfl rfl rfl rfl rfl (fun _ => rfl) (fun _ => rfl) (by kernel_rfl) (by kernel_rfl) (by decide) (by decide) hz (by omega) 59 #[.agg (natC k p)] (fun _ => by go_simp) (fun _ _ => by go_simp) (fun _ h => hS1.below h (by omega)) _ (fun w' h => length_any w' HP.out ((HT.out.on (hB1.trans (h.mono hB1.size))).up (hB1.trans (h.mono hB1.size)).size)) ?_
    rintro w0' e w2 hW0' ⟨L, rfl, hL, hL2, hW2'⟩
    have hW2 : Below w1.heap.size w1 w2 := hW0'.trans (hW2'.mono hW0'.size)
    have hS2 : NatAt w2 w.heap.size k p := hS1.below hW2 (by omega)
    have B2 : NatAt w2 (w.heap.size + 1) 0 zP := B1.below hW2 (by omega)
    have hB2 : Below w.heap.size w w2 := hB1.trans (hW2.mono hB1.size)
    have hs2 := hW2.size
    obtain ⟨h, hh⟩ : ∃ h, h = (L + 1) / 2 := ⟨_, rfl⟩
    have hL600 : L ≤ 600 := hL.le (by omega) HN.out.2
    have hwL : IntKind.i64.wrap ((L : Int) + 1) = (L : Int) + 1 := by rw [IntKind.wrap_i64]; omega
    have hqt : ((L : Int) + 1).tdiv 2 = (h : Int) := by rw [Int.tdiv_eq_ediv_of_nonneg (by omega)]; omega
    have hh6 : h ≤ 300 := by omega
    have hwh : IntKind.i64.wrap (h : Int) = (h : Int) := by rw [IntKind.wrap_i64]; omega
    have HH := hide hh
    clear hh
    refine ⟨_, rfl, hW2', ?_⟩
    simp only [Act.put, List.setIfInBounds_toArray, List.set_cons_zero, List.set_cons_succ]
    refine float_val 3 15 rfl rfl (by kernel_rfl) (by kernel_rfl) (by kernel_rfl) (by kernel_rfl) (by kernel_rfl) noPanic_put (fun _ => rfl) (by decide) (by decide) (.int .i64 ((L : Int) + 1)) (fun _ _ => by go_simp) (fun _ => fun _ _ => by go_simp) (fun _ h => hS2.below h (by omega)) ?_
    simp only [Act.put, List.setIfInBounds_toArray, List.set_cons_zero, List.set_cons_succ]
    refine float_val 4 16 rfl rfl (by kernel_rfl) (by kernel_rfl) (by kernel_rfl) (by kernel_rfl) (by kernel_rfl) noPanic_put (fun _ => rfl) (by decide) (by decide) (.int .i64 (h : Int)) (fun _ _ => by go_simp) (fun _ => fun _ _ => by go_simp) (fun _ h => hS2.below h (by omega)) ?_
    simp only [Act.put, List.setIfInBounds_toArray, List.set_cons_zero, List.set_cons_succ]
    have hi1 : i1 ≤ 1 := by
      rcases Nat.lt_or_ge 1 i1 with h' | h'
      · have h2 := hR1.geN (by omega)
        have h3 : 1000000 ^ 1 ≤ 1000000 ^ (i1 - 1) := Nat.pow_le_pow_right (by decide) (by omega)
        omega
      · exact h'
    refine float_call 5 17 rfl rfl rfl rfl rfl (fun _ => rfl) (fun _ => rfl) (by kernel_rfl) (by kernel_rfl) (by decide) (by decide) hz (by omega) 58 #[.agg (natC i1 r1), .int .i64 (h : Int)] (fun _ => by go_simp) (fun _ _ => by go_simp) (fun _ h => hS2.below h (by omega)) _ (fun w' _ => raised_any h w' hR1 (by omega)) ?_
    rintro w0'' e w3 hW0'' ⟨i3, r3, rfl, hR3, hW3'⟩
    have hW3 : Below w2.heap.size w2 w3 := hW0''.trans (hW3'.mono hW0''.size)
    have hS3 : NatAt w3 w.heap.size k p := hS2.below hW3 (by omega)
    have B3 : NatAt w3 (w.heap.size + 1) 0 zP := B2.below hW3 (by omega)
    have hB3 : Below w.heap.size w w3 := hB2.trans (hW3.mono hB2.size)
    have hs3 := hW3.size
    have hrl3 := hR3.len
    refine ⟨_, rfl, hW3', ?_⟩
    simp only [Act.put, List.setIfInBounds_toArray, List.set_cons_zero, List.set_cons_succ]
    refine float_end rfl rfl rfl (fun _ => rfl) (by kernel_rfl) hz (by omega) (fun _ h => hS3.below h (by omega)) ?_
    intro wp b3 hWp hRp hb3w
    simp only [Act.put, List.setIfInBounds_toArray, List.set_cons_zero, List.set_cons_succ]
    have hSp : NatAt wp w.heap.size k p := hS3.below hWp (by omega)
    have hBp : NatAt wp (w.heap.size + 1) 0 zP := B3.below hWp (by omega)
    have hb3' : w.heap.size + 1 < b3 := by omega
    refine held_store 7 (by kernel_rfl) rfl rfl _ _ rfl rfl b3 i3 r3 rfl rfl 0 zP hRp zP_len hrl3 ?_
    intro w4 hN4 hg4 hs4
    have hA4 : NatAt w4 w.heap.size k p := hSp.grown hg4 (by simp; omega)
    have hB4 : NatAt w4 (w.heap.size + 1) 0 zP := hBp.grown hg4 (by simp; omega)
    have hW4 : Below w.heap.size w w4 := (hB3.trans (hWp.mono hB3.size)).grown hg4 (by have := hB3.size; have := hWp.size; omega) (by intro k hk; cases hk; omega)
    refine ⟨hA4, ?_⟩
    refine wpAnyH_done (by kernel_rfl) ?_ _
    refine NoPanic.normal ?_
    rw [Nat.one_mul] at hR3
    have hst := root_start hL.2.1
    rw [← HH.out] at hst
    have hp0 : 0 < 10 ^ h := Nat.pow_pos (by decide)
    have hi3 : i3 ≤ 100 := hR3.fits.2 (pow_ten_lt h 600 (by omega))
    obtain ⟨s0, hs0⟩ : ∃ s0, s0 = 10 ^ h := ⟨_, rfl⟩
    rw [← hs0] at hR3 hst hp0
    have HR0 : Hid (Rep s0 i3 r3 ∧ 0 < s0 ∧ n < (s0 + 1) * (s0 + 1)) := ⟨hR3, hp0, hst⟩
    clear hS hS1 hS2 hS3 B1 B2 B3 hB1 hB2 hB3 hW1 hW2 hW3 hR1 hR3 hst hp0 hL hL2 hL600 hwL hqt hg4 hs4 A B hB hs0 hs1 hs2 hs3 hW0 hW0' hW0'' hW1' hW2' hW3' hWp hRp hSp hBp hwh hi1 hb3w
    go_wp2_with fail
    go_loopg [] s0 (fun g wr => ∃ (i : Nat) (r : List Int), Hid (Rep g i r ∧ 0 < g ∧ n < (g + 1) * (g + 1)) ∧ i ≤ 100 ∧ r.length = 204 ∧ NatAt wr w.heap.size k p ∧ NatAt wr (w.heap.size + 1) 0 zP ∧ NatAt wr b3 i r ∧ Below w.heap.size w wr)
    case atStart => exact ⟨i3, r3, HR0, hi3, hrl3, hA4, hB4, hN4, hW4⟩
    case round =>
      obtain ⟨i, r, HI, hi, hrl, hA, hBz, hN, hW⟩ := hrel
      clear hA4 hB4 hN4 hW4 HR0 hi3 hrl3 hrl1
      have hj0 : 0 < i := Nat.pos_of_ne_zero (fun h => by have := HI.out.1.zero_iff.1 h; have := HI.out.2.1; omega)
      have hlb := hN.lt
      have hws := hW.size
      go_wp2_with (first | (refine load_nat rfl (.tmp 1) rfl w.heap.size rfl k p hA hp ?_) | (refine load_nat rfl (.tmp 3) rfl b3 rfl i r hN hrl ?_))
      refine (divide_any wr HP.out HI.out.1 hj0 (by omega)).mono ?_
      rintro e w5 ⟨qi, ti, q, t, rfl, hQ5, hT5, hW5⟩
      have hql := hQ5.len
      have htl := hT5.len
      have hqi : qi ≤ 100 := hQ5.fits.2 (Nat.lt_of_le_of_lt (Nat.div_le_self _ _) HN.out.2)
      have HQ5 := hide hQ5
      have hA5 := hA.below hW5 (by omega)
      have hB5 := hBz.below hW5 (by omega)
      have hN5 := hN.below hW5 (by omega)
      have hV5 : Below w.heap.size w w5 := hW.trans (hW5.mono hws)
      have hs5 := hW5.size
      have C5 := (NatAt.new w5 0 zP).old (.cells (natC 0 zP) 46)
      have D5 := NatAt.new (w5.alloc (.cells (natC 0 zP) 46)) 0 zP
      simp only [World.size_alloc] at D5
      clear hA hBz hN hW hW5 hT5 hQ5
      go_wp2_with (first | (refine store_nat rfl (.tmp 4) _ rfl rfl w5.heap.size qi q rfl rfl 0 zP C5 zP_len hql ?_; intro w6 hN6 hg6 hs6) | (refine store_nat rfl (.tmp 5) _ rfl rfl (w5.heap.size + 1) ti t rfl rfl 0 zP (D5.grown hg6 (by simp)) zP_len htl ?_; intro w7 hN7 hg7 hs7) | (refine load_nat rfl (.tmp 3) rfl b3 rfl i r (((hN5.old _).old _).grown hg6 (by simp; omega) |>.grown hg7 (by simp; omega)) hrl ?_) | (refine load_nat rfl (.tmp 4) rfl w5.heap.size rfl qi q (hN6.grown hg7 (by simp)) hql ?_))
      have hA7 : NatAt w7 w.heap.size k p := ((hA5.old _).old _ |>.grown hg6 (by simp; omega)).grown hg7 (by simp; omega)
      have hB7 : NatAt w7 (w.heap.size + 1) 0 zP := ((hB5.old _).old _ |>.grown hg6 (by simp; omega)).grown hg7 (by simp; omega)
      have hN7' : NatAt w7 b3 i r := ((hN5.old _).old _ |>.grown hg6 (by simp; omega)).grown hg7 (by simp; omega)
      have hV7 : Below w.heap.size w w7 := (((hV5.alloc hV5.size _).alloc (by simp; have := hV5.size; omega) _).grown hg6 (by simp; have := hV5.size; omega) (by intro k hk; cases hk; have := hV5.size; omega)).grown hg7 (by rw [hs6]; simp; have := hV5.size; omega) (by intro k hk; cases hk; have := hV5.size; omega)
      have hs7' : w5.heap.size + 1 + 1 = w7.heap.size := by rw [hs7, hs6]; simp
      clear hA5 hB5 hN5 hV5 C5 D5 hN6 hg6 hs6 hN7 hg7 hs7
      refine (plus_any w7 HI.out.1 HQ5.out hi hqi).mono ?_
      rintro e w8 ⟨i8, r8, rfl, hR8, hW8⟩
      have HR8 := hide hR8
      have hr8 := hR8.len
      have h8le := hR8.le
      have hA8 := hA7.below hW8 (by omega)
      have hB8 := hB7.below hW8 (by omega)
      have hN8 := hN7'.below hW8 (by omega)
      have hV8 : Below w.heap.size w w8 := hV7.trans (hW8.mono hV7.size)
      have hs8 := hW8.size
      clear hA7 hB7 hN7' hV7 hW8 hR8
      go_wp2_with fail
      refine (divideSmall_any 2 2 w8 HR8.out h8le rfl (by omega) (by omega)).mono ?_
      rintro e w9 ⟨i9, r9, x9, rfl, _, hR9, hW9⟩
      have HR9 := hide hR9
      have hr9 := hR9.len
      have hA9 := hA8.below hW9 (by omega)
      have hB9 := hB8.below hW9 (by omega)
      have hN9 := hN8.below hW9 (by omega)
      have hV9 : Below w.heap.size w w9 := hV8.trans (hW9.mono hV8.size)
      have hs9 := hW9.size
      have E9 := NatAt.new w9 0 zP
      clear hA8 hB8 hN8 hV8 hW9 hR9
      go_wp2_with (first | (refine store_nat rfl (.tmp 6) _ rfl rfl w9.heap.size i9 r9 rfl rfl 0 zP E9 zP_len hr9 ?_; intro wa hNa hga hsa) | (refine load_nat rfl (.tmp 6) rfl w9.heap.size rfl i9 r9 hNa hr9 ?_) | (refine load_nat rfl (.tmp 3) rfl b3 rfl i r ((hN9.old _).grown hga (by simp; omega)) hrl ?_))
      have hAa : NatAt wa w.heap.size k p := (hA9.old _).grown hga (by simp; omega)
      have hBa : NatAt wa (w.heap.size + 1) 0 zP := (hB9.old _).grown hga (by simp; omega)
      have hNa3 : NatAt wa b3 i r := (hN9.old _).grown hga (by simp; omega)
      have hVa : Below w.heap.size w wa := (hV9.alloc hV9.size _).grown hga (by simp; have := hV9.size; omega) (by intro k hk; cases hk; have := hV9.size; omega)
      have hsa' : w9.heap.size + 1 = wa.heap.size := by rw [hsa]; simp
      clear hA9 hB9 hN9 hV9 E9 hga hsa
      refine (compare_rep wa HR9.out HI.out.1).mono ?_
      rintro e wb ⟨rfl, hWb⟩
      have hAb := hAa.below hWb (by omega)
      have hBb := hBa.below hWb (by omega)
      have hNb3 := hNa3.below hWb (by omega)
      have hNb := hNa.below hWb (by omega)
      have hVb : Below w.heap.size w wb := hVa.trans (hWb.mono hVa.size)
      have hsb := hWb.size
      clear hAa hBa hNa3 hNa hVa hWb
      by_cases hlt : (gk + n / gk) / 2 < gk
      · have hc : cmpI (((gk + n / gk) / 2 : Nat) : Int) (gk : Int) = -1 := cmpI_lt (by exact_mod_cast hlt)
        rw [hc]
        have HLT := hide hlt
        clear hc hlt
        go_wp2_with (first | (refine load_nat rfl (.tmp 6) rfl w9.heap.size rfl i9 r9 hNb hr9 ?_) | (refine store_nat rfl (.tmp 3) _ rfl rfl b3 i9 r9 rfl rfl i r hNb3 hrl hr9 ?_; intro wc hNc hgc hsc))
        go_roundg ((gk + n / gk) / 2)
        case measure => exact HLT.out
        case rel =>
          refine ⟨i9, r9, ⟨HR9.out, newton_pos HN.out.1 HI.out.2.1, newton_up HI.out.2.1⟩, ?_, hr9, hAb.grown hgc (by simp; omega), hBb.grown hgc (by simp; omega), hNc, hVb.grown hgc (by have := hVb.size; omega) (by intro k hk; cases hk; omega)⟩
          exact HR9.out.fits.2 (Nat.lt_trans HLT.out (HI.out.1.fits.1 hi))
      · have hge : gk ≤ (gk + n / gk) / 2 := Nat.not_lt.1 hlt
        obtain ⟨c, hcc⟩ : ∃ c, c = cmpI (((gk + n / gk) / 2 : Nat) : Int) (gk : Int) := ⟨_, rfl⟩
        have hc0 : 0 ≤ c := by
          have h9 : ¬ (((gk + n / gk) / 2 : Nat) : Int) < (gk : Int) := by exact_mod_cast hlt
          rw [hcc]; unfold cmpI; rw [if_neg h9]; split <;> decide
        rw [← hcc]
        have HE : Hid (gk * gk ≤ n) := newton_end HI.out.2.1 hge
        clear hcc hge hlt
        go_wp2_with (first | (refine load_nat rfl (.tmp 3) rfl b3 rfl i r hNb3 hrl ?_) | (refine store_nat rfl (.tmp 2) _ rfl rfl (w.heap.size + 1) i r rfl rfl 0 zP hBb zP_len hrl ?_; intro wc hNc hgc hsc))
        refine bodyPost_ret (v := .agg (natC i r)) (res_nat Tryd.results23 _ _ (w.heap.size + 1) _ _ rfl hNc hrl) rfl ⟨gk, i, r, rfl, HI.out.1, HE.out, HI.out.2.2, hVb.grown hgc (by have := hVb.size; omega) (by intro k hk; cases hk; omega)⟩

set_option maxHeartbeats 4000000 in
set_option maxRecDepth 100000 in
theorem implSqrt_any (a : ByteArray) (w : World) (hsa : a.size ≤ maxLen) (hT : Tab w.heap.size w) :
    Calls Tryd.prog 7 #[.string a] w fun e w' => SqAns a e ∧ Below w.heap.size w w' := by
  have hz := zero_nat.1
  have HT : Hid (Tab w.heap.size w) := hT
  clear hT
  go_enter Tryd.func7, Tryd.ntmps7
  go_wp2_with fail
  refine (readNat_any a _ hsa).mono ?_
  rintro e w1 ⟨k, p, oa, rfl, hRa, hW1⟩
  have hp := hRa.len
  have hs1 := hW1.size
  have A := NatAt.new w1 0 zP
  have hB : Below w.heap.size w (w1.alloc (.cells (natC 0 zP) 46)) := hW1.alloc (by omega) _
  have hok : oa = goodB a.data.toList := hRa.ok
  cases hg : oa with
  | true =>
    have HG : Hid (goodB a.data.toList = true) := by unfold Hid; rw [← hok]; exact hg
    have HR := hideT (hRa.rep HG.out)
    have hk := HR.out.small (good_lt HG.out)
    clear hg hok hRa
    go_wp2_with (first | (refine store_nat rfl _ _ rfl rfl w1.heap.size k p rfl rfl 0 zP A zP_len hp ?_; intro w2 hN2 hg2 hs2) | (refine load_nat rfl _ rfl w1.heap.size rfl k p hN2 hp ?_))
    have hB2 : Below w.heap.size w w2 := hB.grown hg2 (by simp; omega) (by intro k hk; cases hk; omega)
    have hs2' : w1.heap.size + 1 = w2.heap.size := by rw [hs2]; simp
    clear A hB hg2 hs2
    refine (root_any w2 HR.out (good_lt HG.out) ((HT.out.on hB2).up hB2.size)).mono ?_
    rintro e w3 ⟨s, i, r, rfl, hR3, hlo, hhi, hW3⟩
    have hr3 := hR3.len
    have hN3 := hN2.below hW3 (by omega)
    have hB3 : Below w.heap.size w w3 := hB2.trans (hW3.mono hB2.size)
    have hs3 := hW3.size
    have hi : i ≤ 100 := hR3.small (Nat.lt_of_le_of_lt (Nat.le_trans (by rcases Nat.eq_zero_or_pos s with h | h; rw [h]; exact Nat.zero_le _; exact Nat.le_mul_of_pos_left s h) hlo) (good_lt HG.out))
    have HR3 := hideT hR3
    have HS : Hid (s * s ≤ dval a.data.toList ∧ dval a.data.toList < (s + 1) * (s + 1)) := ⟨hlo, hhi⟩
    have C3 := NatAt.new w3 0 zP
    clear hN2 hB2 hW3 hR3 hlo hhi
    go_wp2_with (refine store_nat rfl _ _ rfl rfl w3.heap.size i r rfl rfl 0 zP C3 zP_len hr3 ?_; intro w4 hN4 hg4 hs4)
    have hN4a : NatAt w4 w1.heap.size k p := (hN3.old _).grown hg4 (by simp; omega)
    have hB4 : Below w.heap.size w w4 := (hB3.alloc hB3.size _).grown hg4 (by simp; have := hB3.size; omega) (by intro k hk; cases hk; have := hB3.size; omega)
    have hs4' : w3.heap.size + 1 = w4.heap.size := by rw [hs4]; simp
    clear hN3 hB3 hg4 hs4 C3
    refine float_begin (fun w' => NatAt w' w1.heap.size k p ∧ NatAt w' w3.heap.size i r) 8 8 46 (natC 0 zP) w4.heap.size 10 (by kernel_rfl) rfl ?_
    have hS : NatAt w4.drew w1.heap.size k p ∧ NatAt w4.drew w3.heap.size i r := ⟨hN4a, hN4⟩
    refine float_val 0 20 rfl rfl (by kernel_rfl) (by kernel_rfl) (by kernel_rfl) (by kernel_rfl) (by kernel_rfl) noPanic_put (fun _ => rfl) (by decide) (by decide) (.agg (natC k p)) (fun _ h => run_nat0 _ rfl w1.heap.size rfl k p hp h.1) (fun _ => fun _ h => run_nat0 _ rfl w1.heap.size rfl k p hp h.1) (fun _ h => ⟨hS.1.below h (by simp; omega), hS.2.below h (by simp; omega)⟩) ?_
    simp only [Act.put, List.setIfInBounds_toArray, List.set_cons_zero, List.set_cons_succ]
    refine float_val 1 21 rfl rfl (by kernel_rfl) (by kernel_rfl) (by kernel_rfl) (by kernel_rfl) (by kernel_rfl) noPanic_put (fun _ => rfl) (by decide) (by decide) (.agg (natC i r)) (fun _ h => run_nat0 _ rfl w3.heap.size rfl i r hr3 h.2) (fun _ => fun _ h => run_nat0 _ rfl w3.heap.size rfl i r hr3 h.2) (fun _ h => ⟨hS.1.below h (by simp; omega), hS.2.below h (by simp; omega)⟩) ?_
    simp only [Act.put, List.setIfInBounds_toArray, List.set_cons_zero, List.set_cons_succ]
    refine float_val 2 22 rfl rfl (by kernel_rfl) (by kernel_rfl) (by kernel_rfl) (by kernel_rfl) (by kernel_rfl) noPanic_put (fun _ => rfl) (by decide) (by decide) (.agg (natC i r)) (fun _ h => run_nat0 _ rfl w3.heap.size rfl i r hr3 h.2) (fun _ => fun _ h => run_nat0 _ rfl w3.heap.size rfl i r hr3 h.2) (fun _ h => ⟨hS.1.below h (by simp; omega), hS.2.below h (by simp; omega)⟩) ?_
    simp only [Act.put, List.setIfInBounds_toArray, List.set_cons_zero, List.set_cons_succ]
    refine float_call 3 23 rfl rfl rfl rfl rfl (fun _ => rfl) (fun _ => rfl) (by kernel_rfl) (by kernel_rfl) (by decide) (by decide) hz (by simp) 25 #[.agg (natC i r), .agg (natC i r)] (fun _ => by go_simp) (fun _ _ => by go_simp) (fun _ h => ⟨hS.1.below h (by simp; omega), hS.2.below h (by simp; omega)⟩) _ (fun w' _ => times_any w' HR3.out HR3.out hi hi) ?_
    rintro w0 e w5 hW0 ⟨i5, r5, rfl, hR5, hW5'⟩
    have hW5 : Below w4.drew.heap.size w4.drew w5 := hW0.trans (hW5'.mono hW0.size)
    have hS5 : NatAt w5 w1.heap.size k p ∧ NatAt w5 w3.heap.size i r := ⟨hS.1.below hW5 (by simp; omega), hS.2.below hW5 (by simp; omega)⟩
    have hB5 : Below w.heap.size w w5 := hB4.drew.trans (hW5.mono hB4.size)
    have hs5 : w4.heap.size ≤ w5.heap.size := hW5.size
    have h5u : i5 ≤ 202 := Nat.le_trans (HR3.out.mul_used HR3.out hR5) (by omega)
    refine ⟨_, rfl, hW5', ?_⟩
    simp only [Act.put, List.setIfInBounds_toArray, List.set_cons_zero, List.set_cons_succ]
    refine float_call 4 24 rfl rfl rfl rfl rfl (fun _ => rfl) (fun _ => rfl) (by kernel_rfl) (by kernel_rfl) (by decide) (by decide) hz (by omega) 24 #[.agg (natC k p), .agg (natC i5 r5), .int .i64 1, .int .i64 0] (fun _ => by go_simp) (fun _ _ => by go_simp) (fun _ h => ⟨hS5.1.below h (by omega), hS5.2.below h (by omega)⟩) _ (fun w' _ => minus_any 1 0 w' HR.out hR5 (by omega) (by omega) (by omega) (by omega)) ?_
    intro w0' e w6 hW0' hcase
    obtain ⟨i6, r6, rfl, hR6, hW6'⟩ : ∃ (i6 : Nat) (r6 : List Int), e = .returned (.tuple #[.agg (natC i6 r6), .bool true]) ∧ Rep (dval a.data.toList - s * s) i6 r6 ∧ Below w0'.heap.size w0' w6 := by
      have hle := HS.out.1
      rcases hcase with ⟨i6, r6, x, h1, h2, h3, h4⟩ | ⟨_, h2, _⟩
      · refine ⟨i6, r6, h1, ?_, h4⟩
        simp only [Int.pow_zero, Int.one_mul] at h3
        have : x = dval a.data.toList - s * s := by omega
        rw [← this]; exact h2
      · simp only [Int.pow_zero, Int.one_mul] at h2
        omega
    have hW6 : Below w5.heap.size w5 w6 := hW0'.trans (hW6'.mono hW0'.size)
    have hS6 : NatAt w6 w1.heap.size k p ∧ NatAt w6 w3.heap.size i r := ⟨hS5.1.below hW6 (by omega), hS5.2.below hW6 (by omega)⟩
    have hB6 : Below w.heap.size w w6 := hB5.trans (hW6.mono hB5.size)
    have hs6 := hW6.size
    have hr6 := hR6.len
    refine ⟨_, rfl, hW6', ?_⟩
    simp only [Act.put, List.setIfInBounds_toArray, List.set_cons_zero, List.set_cons_succ]
    refine float_val 5 19 rfl rfl (by kernel_rfl) (by kernel_rfl) (by kernel_rfl) (by kernel_rfl) (by kernel_rfl) noPanic_put (fun _ => rfl) (by decide) (by decide) (.tuple #[.agg (natC i6 r6), .bool true]) (fun _ _ => rfl) (fun _ => fun _ _ => rfl) (fun _ h => ⟨hS6.1.below h (by omega), hS6.2.below h (by omega)⟩) ?_
    simp only [Act.put, List.setIfInBounds_toArray, List.set_cons_zero, List.set_cons_succ]
    refine float_val 6 25 rfl rfl (by kernel_rfl) (by kernel_rfl) (by kernel_rfl) (by kernel_rfl) (by kernel_rfl) noPanic_put (fun _ => rfl) (by decide) (by decide) (.agg (natC i6 r6)) (fun _ _ => by go_simp) (fun _ => fun _ _ => by go_simp) (fun _ h => ⟨hS6.1.below h (by omega), hS6.2.below h (by omega)⟩) ?_
    simp only [Act.put, List.setIfInBounds_toArray, List.set_cons_zero, List.set_cons_succ]
    refine float_val 7 26 rfl rfl (by kernel_rfl) (by kernel_rfl) (by kernel_rfl) (by kernel_rfl) (by kernel_rfl) noPanic_put (fun _ => rfl) (by decide) (by decide) (.bool true) (fun _ _ => by go_simp) (fun _ => fun _ _ => by go_simp) (fun _ h => ⟨hS6.1.below h (by omega), hS6.2.below h (by omega)⟩) ?_
    simp only [Act.put, List.setIfInBounds_toArray, List.set_cons_zero, List.set_cons_succ]
    refine float_end rfl rfl rfl (fun _ => rfl) (by kernel_rfl) hz (by omega) (fun _ h => ⟨hS6.1.below h (by omega), hS6.2.below h (by omega)⟩) ?_
    intro wp b8 hWp hRp hb8w
    simp only [Act.put, List.setIfInBounds_toArray, List.set_cons_zero, List.set_cons_succ]
    have hSp : NatAt wp w1.heap.size k p ∧ NatAt wp w3.heap.size i r := ⟨hS6.1.below hWp (by omega), hS6.2.below hWp (by omega)⟩
    refine held_store 9 (by kernel_rfl) rfl rfl _ _ rfl rfl b8 i6 r6 rfl rfl 0 zP hRp zP_len hr6 ?_
    intro w7 hN7 hg7 hs7
    have hSq : NatAt w7 w1.heap.size k p ∧ NatAt w7 w3.heap.size i r := ⟨hSp.1.grown hg7 (by simp; omega), hSp.2.grown hg7 (by simp; omega)⟩
    refine ⟨hSq, ?_⟩
    refine held_assign 10 (some 9) (by kernel_rfl) rfl rfl _ rfl rfl _ rfl hSq ?_
    simp only [Act.put, List.setIfInBounds_toArray, List.set_cons_zero, List.set_cons_succ]
    refine wpAnyH_done (by kernel_rfl) ?_ _
    refine NoPanic.normal ?_
    have hB7 : Below w.heap.size w w7 := (hB6.trans (hWp.mono hB6.size)).grown hg7 (by have := hB6.size; have := hWp.size; omega) (by intro k hk; cases hk; have := hB4.size; omega)
    have hs7' : w4.heap.size ≤ w7.heap.size := by rw [hs7]; have := hWp.size; omega
    have HR6 := hideT hR6
    have hb8l := hN7.lt
    clear hS hS5 hS6 hSp hW0 hW5 hW5' hW0' hW6 hW6' hWp hRp hR5 hR6 hg7 hs7 hB4 hB5 hB6 hN4 hN4a hcase
    go_wp2_with fail
    refine held_begin (fun w' => NatAt w' w3.heap.size i r ∧ NatAt w' b8 i6 r6) (by kernel_rfl) ?_
    have hS : NatAt w7.drew w3.heap.size i r ∧ NatAt w7.drew b8 i6 r6 := ⟨hSq.2, hN7⟩
    refine held_load 0 (some 27) rfl rfl (by kernel_rfl) (by kernel_rfl) (by kernel_rfl) noPanic_put rfl _ rfl (w3.heap.size) rfl i r (fun _ h => h.1) hr3 hS ?_
    simp only [Act.put, List.setIfInBounds_toArray, List.set_cons_zero, List.set_cons_succ]
    refine held_load 2 (some 29) rfl rfl (by kernel_rfl) (by kernel_rfl) (by kernel_rfl) noPanic_put rfl _ rfl (b8) rfl i6 r6 (fun _ h => h.2) hr6 hS ?_
    simp only [Act.put, List.setIfInBounds_toArray, List.set_cons_zero, List.set_cons_succ]
    refine held_call 1 (some 28) (by kernel_rfl) rfl rfl rfl 26 #[.agg (natC i r)] (by go_simp) _ (text_any w7.drew HR3.out ((HT.out.on hB7.drew).up hB7.size)) ?_
    rintro e w8 ⟨y1, rfl, hc1, hv1, hW8⟩
    have hB8 : Below w.heap.size w w8 := hB7.drew.trans (hW8.mono hB7.size)
    have hs8 : w7.heap.size ≤ w8.heap.size := hW8.size
    have hS8 : NatAt w8 w3.heap.size i r ∧ NatAt w8 b8 i6 r6 := ⟨hS.1.below hW8 (by simp; omega), hS.2.below hW8 (by simp; omega)⟩
    refine ⟨_, rfl, hS8, ?_⟩
    simp only [Act.put, List.setIfInBounds_toArray, List.set_cons_zero, List.set_cons_succ]
    refine held_call 3 (some 30) (by kernel_rfl) rfl rfl rfl 26 #[.agg (natC i6 r6)] (by go_simp) _ (text_any w8 HR6.out ((HT.out.on hB8).up hB8.size)) ?_
    rintro e w9 ⟨y2, rfl, hc2, hv2, hW9⟩
    have hB9 : Below w.heap.size w w9 := hB8.trans (hW9.mono hB8.size)
    have hS9 : NatAt w9 w3.heap.size i r ∧ NatAt w9 b8 i6 r6 := ⟨hS8.1.below hW9 (by omega), hS8.2.below hW9 (by omega)⟩
    refine ⟨_, rfl, hS9, ?_⟩
    simp only [Act.put, List.setIfInBounds_toArray, List.set_cons_zero, List.set_cons_succ]
    refine held_assign 4 (some 2) (by kernel_rfl) rfl rfl _ rfl rfl _ rfl hS9 ?_
    simp only [Act.put, List.setIfInBounds_toArray, List.set_cons_zero, List.set_cons_succ]
    refine held_assign 5 (some 3) (by kernel_rfl) rfl rfl _ rfl rfl _ rfl hS9 ?_
    simp only [Act.put, List.setIfInBounds_toArray, List.set_cons_zero, List.set_cons_succ]
    refine held_assign 6 (some 4) (by kernel_rfl) rfl rfl _ rfl rfl _ rfl hS9 ?_
    simp only [Act.put, List.setIfInBounds_toArray, List.set_cons_zero, List.set_cons_succ]
    refine wpAnyH_done (by kernel_rfl) ?_ _
    refine NoPanic.normal ?_
    have HA : Hid (SqAns a (.returned (.tuple #[.string y1, .string y2, .bool true]))) := by
      have h1 := HS.out
      have e1 : (s + 1) * (s + 1) = s * s + 2 * s + 1 := by grind
      exact .inl ⟨HG.out, y1, y2, s, dval a.data.toList - s * s, rfl, ⟨hc1, hv1⟩, ⟨hc2, hv2⟩, by omega, by omega⟩
    clear hc1 hv1 hc2 hv2 hS hS8 hS9 hW8 hW9
    go_wp2
    go_ret3
    exact ⟨HA.out, hB9⟩
  | false =>
    have HA : Hid (SqAns a (.returned (.tuple #[.string ⟨#[]⟩, .string ⟨#[]⟩, .bool false]))) := .inr ⟨by rw [← hok]; exact hg, rfl⟩
    clear hg hok hRa
    go_wp2_with (refine store_nat rfl _ _ rfl rfl w1.heap.size k p rfl rfl 0 zP A zP_len hp ?_; intro w2 hN2 hg2 hs2)
    go_ret3
    exact ⟨HA.out, hB.grown hg2 (by simp; omega) (by intro k hk; cases hk; omega)⟩
end Go.Proofs.YtmfpnbmfcoahbaaDoor
