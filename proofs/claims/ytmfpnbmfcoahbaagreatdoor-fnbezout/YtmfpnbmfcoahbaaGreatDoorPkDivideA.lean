/-
  The texts DivideA, DivideB, ImplGcd, IsOneNat, one behind the other.
-/
import Derived.Test.YtmfpnbmfcoahbaaGreatDoorPkRead
import Derived.Test.YtmfpnbmfcoahbaaGreatDoorPkMinus
import Derived.Test.YtmfpnbmfcoahbaaGreatDoorPkHeld
import Derived.Test.YtmfpnbmfcoahbaaGreatDoorPkLehmer
import Derived.Test.YtmfpnbmfcoahbaaGreatDoorWhole

/-
  What divide of impl's nats answers, by a number of one part.
-/
namespace Go.Proofs.YtmfpnbmfcoahbaaGreatDoor
open Go.RowKit
set_option linter.unusedVariables false

set_option maxHeartbeats 1000000 in
set_option maxRecDepth 100000 in
theorem divide_one {n m k : Nat} {p q : List Int} (w : World) (hP : Rep n k p) (hQ : Rep m 1 q) :
    Calls Tryz.prog 27 #[.agg (natC k p), .agg (natC 1 q)] w fun e w' => ∃ (i j : Nat) (r s : List Int), e = .returned (.tuple #[.agg (natC i r), .agg (natC j s)]) ∧ Rep (n / m) i r ∧ Rep (n % m) j s ∧ Below w.heap.size w w' := by
  have hz := zero_nat.1
  have hp := hP.len
  have hq := hQ.len
  have hk := hP.le
  have A := (((NatAt.new w k p).old (.cells (natC 1 q) 32)).old (.cells (natC 0 zP) 32)).old (.cells (natC 0 zP) 32)
  have B := ((NatAt.new (w.alloc (.cells (natC k p) 32)) 1 q).old (.cells (natC 0 zP) 32)).old (.cells (natC 0 zP) 32)
  have C := (NatAt.new ((w.alloc (.cells (natC k p) 32)).alloc (.cells (natC 1 q) 32)) 0 zP).old (.cells (natC 0 zP) 32)
  have E := NatAt.new (((w.alloc (.cells (natC k p) 32)).alloc (.cells (natC 1 q) 32)).alloc (.cells (natC 0 zP) 32)) 0 zP
  have hB : Below w.heap.size w ((((w.alloc (.cells (natC k p) 32)).alloc (.cells (natC 1 q) 32)).alloc (.cells (natC 0 zP) 32)).alloc (.cells (natC 0 zP) 32)) := ((((Below.refl _ _).alloc (Nat.le_refl _) _).alloc (by simp) _).alloc (by simp; omega) _).alloc (by simp; omega) _
  simp only [World.size_alloc] at B C E
  have b0 := B.c0
  have b1 : (((((w.alloc (.cells (natC k p) 32)).alloc (.cells (natC 1 q) 32)).alloc (.cells (natC 0 zP) 32)).alloc (.cells (natC 0 zP) 32))).cell? ⟨w.heap.size + 1, 1, none⟩ = some (.int .i64 (q.getD 0 0)) := B.cs 0 (by omega)
  obtain ⟨d, hd⟩ : ∃ d, d = q.getD 0 0 := ⟨_, rfl⟩
  have hd0 : 0 < d := by
    have h1 := hQ.top (by omega)
    have h2 := hQ.lo 0
    simp only [Nat.sub_self] at h1
    omega
  have hd1 : d < 1000000 := by rw [hd]; exact hQ.hi 0
  have hdm : d = (m : Int) := by
    have h := hQ.val
    rw [← hQ.val, vb_split 1000000 q 1 (by omega), vb_zero _ (q.drop 1) (fun i => by rw [getD_drop]; exact hQ.out _ (by omega))]
    have : q.take 1 = [d] := by
      cases q with
      | nil => simp at hq
      | cons x q => simp at hd; simp [hd]
    rw [this]; simp [vb]
  rw [← hd] at b1
  have HP := hide hP
  have HM := hide hdm
  clear hP hQ hd hdm
  go_enter Tryz.func27, Tryz.ntmps27
  go_wp2_with (first | (refine load_nat rfl _ rfl w.heap.size rfl k p A hp ?_))
  refine (divideSmall_any m d _ HP.out hk HM.out hd0 hd1).mono ?_
  rintro e w1 ⟨i, r, x, rfl, hx, hR, hW1⟩
  have HR := hide hR
  have HX := hide hx
  have hr := hR.len
  have hxb : 0 ≤ x ∧ x < d := by rw [hx, HM.out]; have := Nat.mod_lt n (show 0 < m by have := HM.out; omega); omega
  obtain ⟨hx0, hx1⟩ := hxb
  have C1 := C.below hW1 (by simp)
  have E1 := E.below hW1 (by simp)
  have hB1 : Below w.heap.size w w1 := hB.trans (hW1.mono (by simp; omega))
  have hs1 := hW1.size
  simp only [World.size_alloc] at hs1
  clear hx hR A B C E hB hW1 b0 b1
  have F1 := NatAt.new w1 0 zP
  go_wp2_with (first | (refine store_nat rfl _ _ rfl rfl w1.heap.size i r rfl rfl 0 zP F1 zP_len hr ?_; intro w2 hN2 hg2 hs2) | (refine load_nat rfl _ rfl w1.heap.size rfl i r hN2 hr ?_))
  have hs2' : w2.heap.size = w1.heap.size + 1 := by rw [hs2]; simp
  have C2 := (C1.old (.cells (natC 0 zP) 32)).grown hg2 (by simp; omega)
  have E2 := (E1.old (.cells (natC 0 zP) 32)).grown hg2 (by simp; omega)
  have hB2 : Below w.heap.size w w2 := (hB1.alloc (by omega) _).grown hg2 (by simp; omega) (by intro k hk; cases hk; omega)
  clear C1 E1 F1 hB1 hg2 hs2
  refine held_begin (fun w' => NatAt w' w1.heap.size i r) (by kernel_rfl) ?_
  have hS : NatAt w2.drew w1.heap.size i r := hN2
  refine held_load 0 (some 24) rfl rfl (by kernel_rfl) (by kernel_rfl) (by kernel_rfl) noPanic_put rfl _ rfl w1.heap.size rfl i r (fun _ h => h) hr hS ?_
  simp only [Act.put, List.setIfInBounds_toArray, List.set_cons_zero, List.set_cons_succ]
  refine held_val 1 (some 25) rfl rfl (by kernel_rfl) (by kernel_rfl) (by kernel_rfl) noPanic_put rfl (.int .i64 x) (fun _ => rfl) hS ?_
  simp only [Act.put, List.setIfInBounds_toArray, List.set_cons_zero, List.set_cons_succ]
  refine held_call 2 (some 26) (by kernel_rfl) rfl rfl rfl 39 #[.int .i64 x] (by go_simp) _ (natOf_any (n % m) x w2.drew HX.out hx0 (by omega)) ?_
  rintro e w3 ⟨j, s, rfl, hR3, hW3⟩
  have hW3 : Below w2.heap.size w2 w3 := ⟨hW3.os, hW3.tape, hW3.output, hW3.size, hW3.block⟩
  have hs3 := hW3.size
  have hN3 : NatAt w3 w1.heap.size i r := hN2.below (w := w2) hW3 (by omega)
  have C3 : NatAt w3 (w.heap.size + 1 + 1) 0 zP := C2.below (w := w2) hW3 (by omega)
  have E3 : NatAt w3 (w.heap.size + 1 + 1 + 1) 0 zP := E2.below (w := w2) hW3 (by omega)
  have hB3 : Below w.heap.size w w3 := hB2.trans (hW3.mono (by have := hB2.size; omega))
  have hs := hR3.len
  refine ⟨_, rfl, hN3, ?_⟩
  simp only [Act.put, List.setIfInBounds_toArray, List.set_cons_zero, List.set_cons_succ]
  refine held_store 3 (by kernel_rfl) rfl rfl _ _ rfl rfl (w.heap.size + 1 + 1) i r rfl rfl 0 zP C3 zP_len hr ?_
  intro w5 hN5 hg5 hs5
  refine ⟨hN3.grown hg5 (by simp; omega), ?_⟩
  refine held_store 4 (by kernel_rfl) rfl rfl _ _ rfl rfl (w.heap.size + 1 + 1 + 1) j s rfl rfl 0 zP (E3.grown hg5 (by simp)) zP_len hs ?_
  intro w6 hN6 hg6 hs6
  refine ⟨(hN3.grown hg5 (by simp; omega)).grown hg6 (by simp; omega), ?_⟩
  refine wpAnyH_done (by kernel_rfl) ?_ _
  refine NoPanic.normal ?_
  go_wp2
  refine bodyPost_ret (v := .tuple #[.agg (natC i r), .agg (natC j s)]) (res_nat2 Tryz.results27 _ _ (w.heap.size + 1 + 1) (w.heap.size + 1 + 1 + 1) _ _ _ _ rfl rfl (hN5.grown hg6 (by simp)) hN6 hr hs) rfl ⟨i, j, r, s, rfl, HR.out, hR3, ?_⟩
  have hB5 : Below w.heap.size w w5 := hB3.grown hg5 (by have := hB3.size; omega) (by intro k hk; cases hk; omega)
  exact hB5.grown hg6 (by have := hB5.size; omega) (by intro k hk; cases hk; omega)
end Go.Proofs.YtmfpnbmfcoahbaaGreatDoor

/-
  What divide of impl's nats answers, by a number of two parts or more.
-/
namespace Go.Proofs.YtmfpnbmfcoahbaaGreatDoor
open Go.RowKit
set_option linter.unusedVariables false

/-- What holds at every jump back: many is not too small. -/
def DivAt (w : World) (m k j t c kc u : Nat) (p q pc Q : List Int) (a' : Act) (w' : World) : Prop :=
  ∃ (x : Int) (u11 u12 u32 u33 u34 u35 u36 u37 u38 u39 u40 u41 u42 u43 u44 u45 u46 u47 u48 u49 u50 u51 u52 u53 u54 u55 u56 u57 u58 u59 u60 u61 u62 : Value), a' = { tmps := #[.agg (natC k p), .agg (natC j q), .pointer (some ⟨w.heap.size, 0, none⟩), .pointer (some ⟨w.heap.size + 1, 0, none⟩), .pointer (some ⟨w.heap.size + 1 + 1, 0, none⟩), .pointer (some ⟨w.heap.size + 1 + 1 + 1, 0, none⟩), undef, undef, .pointer (some ⟨w.heap.size + 1 + 1 + 1 + 1, 0, none⟩), .int .i64 (t : Int), .int .i64 x, u11, u12, .pointer (some ⟨w.heap.size + 1, 0, none⟩), .int .i64 (j : Int), .bool false, undef, undef, undef, undef, undef, undef, undef, undef, undef, undef, undef, .pointer (some ⟨w.heap.size, 0, none⟩), .int .i64 (k : Int), .pointer (some ⟨w.heap.size + 1, 0, none⟩), .int .i64 (j : Int), .int .i64 ((k : Int) - (j : Int)), u32, u33, u34, u35, u36, u37, u38, u39, u40, u41, u42, u43, u44, u45, u46, u47, u48, u49, u50, u51, u52, u53, u54, u55, u56, u57, u58, u59, u60, u61, u62, undef, undef, undef], defers := [] } ∧ 0 ≤ x ∧ x ≤ 2000000 ∧ Hid ((c : Int) < (x + 1) * (1000000 ^ t * (m : Int))) ∧
    NatAt w' w.heap.size kc pc ∧ NatAt w' (w.heap.size + 1) j q ∧ NatAt w' (w.heap.size + 1 + 1) 0 zP ∧ NatAt w' (w.heap.size + 1 + 1 + 1) 0 zP ∧ NatAt w' (w.heap.size + 1 + 1 + 1 + 1) u Q ∧ Below w.heap.size w w'

theorem Rep.cnt_le {n k m j : Nat} {p q : List Int} (h : Rep n k p) (g : Rep m j q) (hle : n ≤ m) : k ≤ j := by
  by_cases e : k ≤ j
  · exact e
  · have := g.cnt_lt h (by omega); omega

set_option maxHeartbeats 1000000 in
set_option maxRecDepth 100000 in
theorem divide_more {n m k j : Nat} {p q : List Int} (w : World) (hP : Rep n k p) (hQ : Rep m j q) (hj : 2 ≤ j) (hk : k ≤ 202) :
    Calls Tryz.prog 27 #[.agg (natC k p), .agg (natC j q)] w fun e w' => ∃ (i j : Nat) (r s : List Int), e = .returned (.tuple #[.agg (natC i r), .agg (natC j s)]) ∧ Rep (n / m) i r ∧ Rep (n % m) j s ∧ Below w.heap.size w w' := by
  have hz := zero_nat.1
  have hp := hP.len
  have hq := hQ.len
  have hj4 := hQ.le
  have A := (((NatAt.new w k p).old (.cells (natC j q) 32)).old (.cells (natC 0 zP) 32)).old (.cells (natC 0 zP) 32)
  have B := ((NatAt.new (w.alloc (.cells (natC k p) 32)) j q).old (.cells (natC 0 zP) 32)).old (.cells (natC 0 zP) 32)
  have C := (NatAt.new ((w.alloc (.cells (natC k p) 32)).alloc (.cells (natC j q) 32)) 0 zP).old (.cells (natC 0 zP) 32)
  have E := NatAt.new (((w.alloc (.cells (natC k p) 32)).alloc (.cells (natC j q) 32)).alloc (.cells (natC 0 zP) 32)) 0 zP
  have hB : Below w.heap.size w ((((w.alloc (.cells (natC k p) 32)).alloc (.cells (natC j q) 32)).alloc (.cells (natC 0 zP) 32)).alloc (.cells (natC 0 zP) 32)) := ((((Below.refl _ _).alloc (Nat.le_refl _) _).alloc (by first | (simp; done) | (simp; omega)) _).alloc (by first | (simp; done) | (simp; omega)) _).alloc (by first | (simp; done) | (simp; omega)) _
  simp only [World.size_alloc] at B C E
  have a0 := A.c0
  have b0 := B.c0
  have hj1 : ((j : Int) == 1) = false := by simp; omega
  have HP := hide hP
  have HQ := hide hQ
  clear hP hQ
  go_enter Tryz.func27, Tryz.ntmps27
  go_wp2
  have A := A.old (.cells (natC 0 zP) 32)
  have B := B.old (.cells (natC 0 zP) 32)
  have C := C.old (.cells (natC 0 zP) 32)
  have G := NatAt.new ((((w.alloc (.cells (natC k p) 32)).alloc (.cells (natC j q) 32)).alloc (.cells (natC 0 zP) 32)).alloc (.cells (natC 0 zP) 32)) 0 zP
  have E := E.old (.cells (natC 0 zP) 32)
  have hB := hB.alloc (by first | (simp; done) | (simp; omega)) (.cells (natC 0 zP) 32)
  simp only [World.size_alloc] at G
  clear a0 b0
  have HS : Hid (DivL n m (k + 1 - j) (k + 1 - j) n zP) := DivL.start (by
    by_cases h : j ≤ k
    · have := DivL.start_lt HP.out HQ.out (by omega) h
      rw [show k + 1 - j = k - j + 1 by omega]; exact this
    · have := HP.out.cnt_lt HQ.out (by omega)
      rw [show k + 1 - j = 0 by omega]; simp; omega)
  go_loopg [9] (k + 1 - j) (fun g i wr => ∃ (x : Int) (c kc u : Nat) (pc Q : List Int), i = .int .i64 x ∧ g = (x + 1).toNat ∧ x ≤ (k : Int) - j ∧ -205 ≤ x ∧ Hid (Rep c kc pc) ∧ kc ≤ 202 ∧ pc.length = 204 ∧ Hid (DivL n m (k + 1 - j) g c Q) ∧ Q.length = 204 ∧ ((u = 0 ∧ g = k + 1 - j) ∨ u = k + 1 - j) ∧ NatAt wr w.heap.size kc pc ∧ NatAt wr (w.heap.size + 1) j q ∧ NatAt wr (w.heap.size + 1 + 1) 0 zP ∧ NatAt wr (w.heap.size + 1 + 1 + 1) 0 zP ∧ NatAt wr (w.heap.size + 1 + 1 + 1 + 1) u Q ∧ Below w.heap.size w wr)
  case atStart => exact ⟨(k : Int) - j, n, k, 0, p, zP, rfl, by omega, by omega, by omega, HP, hk, hp, HS, zP_len, .inl ⟨rfl, rfl⟩, A, B, C, E, G, hB⟩
  case round =>
    obtain ⟨x, c, kc, u, pc, Q, rfl, hgx, hx1, hx2, HC, hkc, hpc, HD, hQl, hu, hA, hBq, hC, hE, hG, hW⟩ := hrel
    clear A B C E G hB HS
    by_cases hx : 0 ≤ x
    · obtain ⟨t, rfl⟩ : ∃ t : Nat, x = (t : Int) := ⟨x.toNat, by omega⟩
      obtain rfl : gk = t + 1 := by omega
      clear hgx hx
      have htk : t + j ≤ k := by omega
      go_wp2
      refine scope_jumps_at 0 (DivAt w m k j t c kc u p q pc Q) (fun a' _ => (intOf (a'.tmps.getD 10 undef)).toNat) rfl ?_ ?_
      · intro hJ
        have HJ := hide hJ
        clear hJ
        go_wp2_with (first | (refine load_nat rfl _ rfl w.heap.size rfl kc pc hA hpc ?_) | (refine load_nat rfl _ rfl (w.heap.size + 1) rfl j q hBq hq ?_))
        refine (guess_any t wr HC.out HQ.out hj (by omega)).mono ?_
        rintro e w1 ⟨rfl, hW1⟩
        have hg := guess_ok HC.out HQ.out hj (by omega) HD.out.lt _ _ _ rfl rfl rfl
        generalize ((pc.getD (t + j) 0 * 1000000 + pc.getD (t + j - 1) 0) * 1000000 + pc.getD (t + j - 2) 0) / (q.getD (j - 1) 0 * 1000000 + q.getD (j - 2) 0) = g at hg ⊢
        obtain ⟨hg0, hg1, hg2⟩ := hg
        have HL := hide hg2
        have hs := hW.size
        have l1 := hG.lt
        have hA1 := hA.below hW1 (by omega)
        have hB1 := hBq.below hW1 (by omega)
        have hC1 := hC.below hW1 (by omega)
        have hE1 := hE.below hW1 (by omega)
        have hG1 := hG.below hW1 (by omega)
        have hW1' : Below w.heap.size w w1 := hW.trans (hW1.mono (by omega))
        clear hg2 hA hBq hC hE hG hW hW1
        go_wp2
        go_step3
        rename_i hK
        exact hK _ _ (HJ.out _ _ ⟨g, _, _, _, _, _, _, _, _, _, _, _, _, _, _, _, _, _, _, _, _, _, _, _, _, _, _, _, _, _, _, _, _, _, rfl, hg0, hg1, HL, hA1, hB1, hC1, hE1, hG1, hW1'⟩)
      · rintro a' wq ⟨x, u11, u12, u32, u33, u34, u35, u36, u37, u38, u39, u40, u41, u42, u43, u44, u45, u46, u47, u48, u49, u50, u51, u52, u53, u54, u55, u56, u57, u58, u59, u60, u61, u62, rfl, hy0, hy1, HL, hA', hBq', hC', hE', hG', hW'⟩
        clear hA hBq hC hE hG hW
        have hsq := hW'.size
        have lq := hG'.lt
        go_wp2_with (first | (refine load_nat rfl _ rfl w.heap.size rfl kc pc hA' hpc ?_) | (refine load_nat rfl _ rfl (w.heap.size + 1) rfl j q hBq' hq ?_))
        refine (minus_any x t wq HC.out HQ.out hkc (by omega) hy0 hy1).mono ?_
        rintro e w2 (⟨i, r, X, rfl, hR, hXv, hW2⟩ | ⟨rfl, hlt, hW2⟩)
        · have hA2 := hA'.below hW2 (by omega)
          have hB2 := hBq'.below hW2 (by omega)
          have hC2 := hC'.below hW2 (by omega)
          have hE2 := hE'.below hW2 (by omega)
          have hG2 := hG'.below hW2 (by omega)
          have hW2' : Below w.heap.size w w2 := hW'.trans (hW2.mono (by omega))
          have hs2 := hW2.size
          have hr := hR.len
          have hx0' : 0 ≤ x * (1000000 ^ t * (m : Int)) := Int.mul_nonneg hy0 (Int.mul_nonneg (Int.le_of_lt (Int.pow_pos (by omega))) (by omega))
          have hi := hR.cnt_le HC.out (by omega)
          have HD' := hide (HD.out.step x (by omega) (by omega) hy0 hXv HL.out)
          have HR := hide hR
          clear hA' hBq' hC' hE' hG' hW' hW2 hR hXv hx0' HL
          have F := NatAt.new w2 0 zP
          have ht2 : (t : Int) < 204 := by omega
          rcases Int.lt_trichotomy (u : Int) ((t : Int) + 1) with hut | hut | hut
          all_goals
            go_wp2_with (first | (refine store_nat rfl _ _ rfl rfl w2.heap.size i r rfl rfl 0 zP F zP_len hr ?_; intro w3 hN3 hg3 hs3) | (refine load_nat rfl _ rfl w2.heap.size rfl i r hN3 hr ?_) | (refine store_nat rfl _ _ rfl rfl w.heap.size i r rfl rfl kc pc ((hA2.old (.cells (natC 0 zP) 32)).grown hg3 (by first | (simp; done) | (simp; omega))) hpc hr ?_; intro w4 hN4 hg4 hs4; have hG4 := ((hG2.old (.cells (natC 0 zP) 32)).grown hg3 (by first | (simp; done) | (simp; omega))).grown hg4 (by first | (simp; done) | (simp; omega)); have hfr := hG4.fr (1 + t); have hfr0 := (hG4.setS t x).fr 0; have c1 := hG4.cs t (by omega); have c0 := (hG4.setS t x).c0))
            simp only [Exit.jump]
            go_wp2
            go_roundg t
            case measure => omega
            case rel =>
              have hW4 : Below w.heap.size w w4 := ((hW2'.alloc (by omega) _).grown hg3 (by first | (simp; done) | (simp; omega)) (by intro k hk; cases hk; omega)).grown hg4 (by rw [hs3]; simp; omega) (by intro k hk; cases hk; omega)
              have hB4 := ((hB2.old (.cells (natC 0 zP) 32)).grown hg3 (by first | (simp; done) | (simp; omega))).grown hg4 (by first | (simp; done) | (simp; omega))
              have hC4 := ((hC2.old (.cells (natC 0 zP) 32)).grown hg3 (by first | (simp; done) | (simp; omega))).grown hg4 (by first | (simp; done) | (simp; omega))
              have hE4 := ((hE2.old (.cells (natC 0 zP) 32)).grown hg3 (by first | (simp; done) | (simp; omega))).grown hg4 (by first | (simp; done) | (simp; omega))
              have hgq : ∀ v : Int, w4.grownBy ((w4.setCell ⟨w.heap.size + 1 + 1 + 1 + 1, 1 + t, none⟩ (.int .i64 x)).setCell ⟨w.heap.size + 1 + 1 + 1 + 1, 0, none⟩ (.int .i64 v)) (some (w.heap.size + 1 + 1 + 1 + 1)) := fun v => grownBy_set (grownBy_set (r0 w4) _ _) _ _
              have e1 : ((k + 1 - j : Nat) : Int) = (t : Int) + 1 ∨ ((k + 1 - j : Nat) : Int) = (u : Int) := by omega
              refine ⟨(t : Int) - 1, X, i, k + 1 - j, r, Q.set t x, by go_num, by omega, by omega, by omega, HR, by omega, hr, HD', by simp [hQl], .inr rfl, hN4.grown (hgq _) (by first | (simp; done) | (simp; omega)), hB4.grown (hgq _) (by first | (simp; done) | (simp; omega)), hC4.grown (hgq _) (by first | (simp; done) | (simp; omega)), hE4.grown (hgq _) (by first | (simp; done) | (simp; omega)), ?_, (hW4.setCell (by first | (simp; done) | (simp; omega)) _).setCell (by first | (simp; done) | (simp; omega)) _⟩
              first
                | (have e : ((k + 1 - j : Nat) : Int) = (t : Int) + 1 := by omega
                   rw [e]
                   exact (hG4.setS t x).set0 ((t : Int) + 1))
                | (have e : ((k + 1 - j : Nat) : Int) = (u : Int) := by omega
                   rw [e]
                   exact (hG4.setS t x).set0 (u : Int))
        · have hA2 := hA'.below hW2 (by omega)
          have hB2 := hBq'.below hW2 (by omega)
          have hC2 := hC'.below hW2 (by omega)
          have hE2 := hE'.below hW2 (by omega)
          have hG2 := hG'.below hW2 (by omega)
          have hW2' : Below w.heap.size w w2 := hW'.trans (hW2.mono (by omega))
          have hs2 := hW2.size
          have hy2 : 1 ≤ x := by
            by_cases h : x = 0
            · rw [h] at hlt; simp at hlt; omega
            · omega
          have HL' : Hid ((c : Int) < ((x - 1) + 1) * (1000000 ^ t * (m : Int))) := by
            unfold Hid; rw [show x - 1 + 1 = x by omega]; exact hlt
          clear hA' hBq' hC' hE' hG' hW' hW2 HL hlt
          have F := NatAt.new w2 0 zP
          go_wp2_with (refine store_nat rfl _ _ rfl rfl w2.heap.size 0 zP rfl rfl 0 zP F zP_len zP_len ?_; intro w3 hN3 hg3 hs3)
          go_step3
          refine ⟨rfl, ⟨x - 1, _, _, _, _, _, _, _, _, _, _, _, _, _, _, _, _, _, _, _, _, _, _, _, _, _, _, _, _, _, _, _, _, _, rfl, by omega, by omega, HL', (hA2.old (.cells (natC 0 zP) 32)).grown hg3 (by first | (simp; done) | (simp; omega)), (hB2.old (.cells (natC 0 zP) 32)).grown hg3 (by first | (simp; done) | (simp; omega)), (hC2.old (.cells (natC 0 zP) 32)).grown hg3 (by first | (simp; done) | (simp; omega)), (hE2.old (.cells (natC 0 zP) 32)).grown hg3 (by first | (simp; done) | (simp; omega)), (hG2.old (.cells (natC 0 zP) 32)).grown hg3 (by first | (simp; done) | (simp; omega)), (hW2'.alloc (by omega) _).grown hg3 (by first | (simp; done) | (simp; omega)) (by intro k hk; cases hk; omega)⟩, ?_⟩
          show (x - 1).toNat < x.toNat
          omega
    · obtain rfl : gk = 0 := by omega
      have hE' := HD.out.end (by omega)
      have hu' : u = k + 1 - j := by omega
      have HE : Hid (Rep (n / m) (trimTo Q u) Q ∧ Rep (n % m) kc pc) := by
        unfold Hid
        rw [hu']
        refine ⟨hE'.2, ?_⟩
        rw [← hE'.1]; exact HC.out
      have hu2 : u ≤ 204 := by omega
      clear hE' hu hgx hx1 hx2 HD HC hu'
      go_wp2_with fail
      refine (trim_any (w.heap.size + 1 + 1 + 1 + 1) u Q _ hQl hu2 hG).mono ?_
      rintro e w2 ⟨rfl, hG2, hg2, hs2⟩
      have hA2 := hA.grown hg2 (by first | (simp; done) | (simp; omega))
      have hC2 := hC.grown hg2 (by first | (simp; done) | (simp; omega))
      have hE2 := hE.grown hg2 (by first | (simp; done) | (simp; omega))
      have hW2 : Below w.heap.size w w2 := hW.grown hg2 (by have := hW.size; omega) (by intro k hk; cases hk; omega)
      clear hA hBq hC hE hG hW hg2 hs2
      go_wp2_with fail
      refine held_begin (fun w' => NatAt w' (w.heap.size + 1 + 1 + 1 + 1) (trimTo Q u) Q ∧ NatAt w' w.heap.size kc pc) (by kernel_rfl) ?_
      have hS : NatAt w2.drew (w.heap.size + 1 + 1 + 1 + 1) (trimTo Q u) Q ∧ NatAt w2.drew w.heap.size kc pc := ⟨hG2, hA2⟩
      refine held_load 0 (some 64) rfl rfl (by kernel_rfl) (by kernel_rfl) (by kernel_rfl) noPanic_put rfl _ rfl (w.heap.size + 1 + 1 + 1 + 1) rfl (trimTo Q u) Q (fun _ h => h.1) hQl hS ?_
      simp only [Act.put, List.setIfInBounds_toArray, List.set_cons_zero, List.set_cons_succ]
      refine held_load 1 (some 65) rfl rfl (by kernel_rfl) (by kernel_rfl) (by kernel_rfl) noPanic_put rfl _ rfl w.heap.size rfl kc pc (fun _ h => h.2) hpc hS ?_
      simp only [Act.put, List.setIfInBounds_toArray, List.set_cons_zero, List.set_cons_succ]
      refine held_store 2 (by kernel_rfl) rfl rfl _ _ rfl rfl (w.heap.size + 1 + 1) (trimTo Q u) Q rfl rfl 0 zP hC2 zP_len hQl ?_
      intro w5 hN5 hg5 hs5
      have hS5 : NatAt w5 (w.heap.size + 1 + 1 + 1 + 1) (trimTo Q u) Q ∧ NatAt w5 w.heap.size kc pc := ⟨hG2.grown (w := w2.drew) hg5 (by first | (simp; done) | (simp; omega)), hA2.grown (w := w2.drew) hg5 (by first | (simp; done) | (simp; omega))⟩
      refine ⟨hS5, ?_⟩
      refine held_store 3 (by kernel_rfl) rfl rfl _ _ rfl rfl (w.heap.size + 1 + 1 + 1) kc pc rfl rfl 0 zP (hE2.grown (w := w2.drew) hg5 (by first | (simp; done) | (simp; omega))) zP_len hpc ?_
      intro w6 hN6 hg6 hs6
      refine ⟨⟨hS5.1.grown hg6 (by first | (simp; done) | (simp; omega)), hS5.2.grown hg6 (by first | (simp; done) | (simp; omega))⟩, ?_⟩
      refine wpAnyH_done (by kernel_rfl) ?_ _
      refine NoPanic.normal ?_
      go_wp2
      refine bodyPost_ret (v := .tuple #[.agg (natC (trimTo Q u) Q), .agg (natC kc pc)]) (res_nat2 Tryz.results27 _ _ (w.heap.size + 1 + 1) (w.heap.size + 1 + 1 + 1) _ _ _ _ rfl rfl (hN5.grown hg6 (by first | (simp; done) | (simp; omega))) hN6 hQl hpc) rfl ⟨_, _, Q, pc, rfl, HE.out.1, HE.out.2, ?_⟩
      have hB5 : Below w.heap.size w w5 := hW2.drew.grown hg5 (by have := hW2.size; simp; omega) (by intro k hk; cases hk; omega)
      exact hB5.grown hg6 (by have := hB5.size; omega) (by intro k hk; cases hk; omega)

/-- Dividing by what is not 0. -/
theorem divide_any {n m k j : Nat} {p q : List Int} (w : World) (hP : Rep n k p) (hQ : Rep m j q) (hj : 0 < j) (hk : k ≤ 202) :
    Calls Tryz.prog 27 #[.agg (natC k p), .agg (natC j q)] w fun e w' => ∃ (i j : Nat) (r s : List Int), e = .returned (.tuple #[.agg (natC i r), .agg (natC j s)]) ∧ Rep (n / m) i r ∧ Rep (n % m) j s ∧ Below w.heap.size w w' := by
  by_cases h : j = 1
  · subst h; exact divide_one w hP hQ
  · exact divide_more w hP hQ (by omega) hk
end Go.Proofs.YtmfpnbmfcoahbaaGreatDoor

/-
  What gcd of impl's nats and impl.GcdNat answer.
-/
namespace Go.Proofs.YtmfpnbmfcoahbaaGreatDoor
open Go.RowKit
set_option linter.unusedVariables false

theorem Rep.zero_iff {n k : Nat} {p : List Int} (h : Rep n k p) : k = 0 ↔ n = 0 := by
  constructor
  · intro e
    have h1 := h.lt
    subst e
    simp at h1; omega
  · intro e
    subst e
    by_cases hk : k = 0
    · exact hk
    · have h1 := h.ge (by omega)
      have : (0 : Int) < 1000000 ^ (k - 1) := Int.pow_pos (by omega)
      omega

/-- A nat is read whole, as an operation. -/
theorem run_nat0 {a : Act} {o : Oper} {w : World} (x : Operand) (ho : o.op = .load 32 x) (b : Nat) (hx : a.eval x = .pointer (some ⟨b, 0, none⟩)) (u : Int) (p : List Int) (hl : p.length = 204) (hN : NatAt w b u p) :
    (execOp a.eval o).run Tryz.prog w = .ok (.value (.agg (natC u p))) w := by
  unfold execOp
  simp only [ho, hx, Instr.loadAt, Instr.sureAddr, Sem.run_bind, Sem.run_pure, Result.andThen_ok, run_loadVar_row w b 32 32 (natC u p) (0, 0) _ hN Tryz.underlying32 rfl (nat_info u p hl)]

set_option maxHeartbeats 40000000 in
set_option maxRecDepth 100000 in
theorem gcd_any {n m k j : Nat} {p q : List Int} (w : World) (hP : Rep n k p) (hQ : Rep m j q) (hk : k ≤ 202) (hj : j ≤ 202) :
    Calls Tryz.prog 18 #[.agg (natC k p), .agg (natC j q)] w fun e w' => ∃ (i : Nat) (r : List Int), e = .returned (.agg (natC i r)) ∧ Rep (Nat.gcd n m) i r ∧ Below w.heap.size w w' := by
  have hz := zero_nat.1
  have hzm := zero_mix.1
  have hp := hP.len
  have hq := hQ.len
  have A := ((NatAt.new w k p).old (.cells (natC j q) 32)).old (.cells (natC 0 zP) 32)
  have B := (NatAt.new (w.alloc (.cells (natC k p) 32)) j q).old (.cells (natC 0 zP) 32)
  have C := NatAt.new ((w.alloc (.cells (natC k p) 32)).alloc (.cells (natC j q) 32)) 0 zP
  have hB : Below w.heap.size w (((w.alloc (.cells (natC k p) 32)).alloc (.cells (natC j q) 32)).alloc (.cells (natC 0 zP) 32)) := (((Below.refl _ _).alloc (Nat.le_refl _) _).alloc (by first | (simp; done) | (simp; omega)) _).alloc (by first | (simp; done) | (simp; omega)) _
  simp only [World.size_alloc] at B C
  have HP := hide hP
  have HQ := hide hQ
  clear hP hQ
  go_enter Tryz.func18, Tryz.ntmps18
  go_wp2
  go_loopg [] m (fun g wr => ∃ (a kc jc : Nat) (pc qc : List Int), Hid (Rep a kc pc ∧ Rep g jc qc ∧ Nat.gcd a g = Nat.gcd n m) ∧ kc ≤ 202 ∧ jc ≤ 202 ∧ pc.length = 204 ∧ qc.length = 204 ∧ NatAt wr w.heap.size kc pc ∧ NatAt wr (w.heap.size + 1) jc qc ∧ NatAt wr (w.heap.size + 1 + 1) 0 zP ∧ Below w.heap.size w wr)
  case atStart => exact ⟨n, k, j, p, q, ⟨HP.out, HQ.out, rfl⟩, hk, hj, hp, hq, A, B, C, hB⟩
  case round =>
    obtain ⟨a, kc, jc, pc, qc, HR, hkc, hjc, hpc, hqc, hA, hBq, hC, hW⟩ := hrel
    clear A B C hB
    have a0 := hA.c0
    have b0 := hBq.c0
    have hsr := hW.size
    have lC := hC.lt
    by_cases h0 : 0 < jc
    · have h0' : (0 : Int) < (jc : Int) := by omega
      rcases Int.lt_or_le (kc : Int) (jc : Int) with q1 | q1
      · rcases Int.lt_or_le (jc : Int) 3 with q2 | q2
        · obtain ⟨T, hT⟩ : ∃ T : Nat, 3 = T + 3 := ⟨3 - 3, by omega⟩
          have HT := hide hT
          clear hT
          go_wp2
          clear a0
          refine held_begin (fun w' => NatAt w' w.heap.size kc pc ∧ NatAt w' (w.heap.size + 1) jc qc) (by kernel_rfl) ?_
          have hS : NatAt wr.drew w.heap.size kc pc ∧ NatAt wr.drew (w.heap.size + 1) jc qc := ⟨hA, hBq⟩
          refine held_load 0 (some 19) rfl rfl (by kernel_rfl) (by kernel_rfl) (by kernel_rfl) noPanic_put rfl _ rfl w.heap.size rfl kc pc (fun _ h => h.1) hpc hS ?_
          simp only [Act.put, List.setIfInBounds_toArray, List.set_cons_zero, List.set_cons_succ]
          refine held_val 1 (some 20) rfl rfl (by kernel_rfl) (by kernel_rfl) (by kernel_rfl) noPanic_put rfl (.int .i64 (3 : Int)) (fun _ => by go_simp) hS ?_
          simp only [Act.put, List.setIfInBounds_toArray, List.set_cons_zero, List.set_cons_succ]
          refine held_load 3 (some 22) rfl rfl (by kernel_rfl) (by kernel_rfl) (by kernel_rfl) noPanic_put rfl _ rfl (w.heap.size + 1) rfl jc qc (fun _ h => h.2) hqc hS ?_
          simp only [Act.put, List.setIfInBounds_toArray, List.set_cons_zero, List.set_cons_succ]
          refine held_val 4 (some 23) rfl rfl (by kernel_rfl) (by kernel_rfl) (by kernel_rfl) noPanic_put rfl (.int .i64 (3 : Int)) (fun _ => by go_simp) hS ?_
          simp only [Act.put, List.setIfInBounds_toArray, List.set_cons_zero, List.set_cons_succ]
          refine held_call 2 (some 21) (by kernel_rfl) rfl rfl rfl 38 #[.agg (natC kc pc), .int .i64 (3 : Int)] (by go_simp) _ (lead_any (T) (3) wr.drew HR.out.1 HT.out (by omega)) ?_
          rintro e w1 ⟨rfl, hW1⟩
          have hW1 : Below wr.heap.size wr w1 := ⟨hW1.os, hW1.tape, hW1.output, hW1.size, hW1.block⟩
          have hS1 : NatAt w1 w.heap.size kc pc ∧ NatAt w1 (w.heap.size + 1) jc qc := ⟨hA.below hW1 (by omega), hBq.below hW1 (by omega)⟩
          refine ⟨_, rfl, hS1, ?_⟩
          simp only [Act.put, List.setIfInBounds_toArray, List.set_cons_zero, List.set_cons_succ]
          refine held_call 5 (some 24) (by kernel_rfl) rfl rfl rfl 38 #[.agg (natC jc qc), .int .i64 (3 : Int)] (by go_simp) _ (lead_any (T) (3) w1 HR.out.2.1 HT.out (by omega)) ?_
          rintro e w2 ⟨rfl, hW2⟩
          have hS2 : NatAt w2 w.heap.size kc pc ∧ NatAt w2 (w.heap.size + 1) jc qc := ⟨hS1.1.below hW2 (by have := hW1.size; omega), hS1.2.below hW2 (by have := hW1.size; omega)⟩
          refine ⟨_, rfl, hS2, ?_⟩
          simp only [Act.put, List.setIfInBounds_toArray, List.set_cons_zero, List.set_cons_succ]
          refine held_assign 6 (some 6) (by kernel_rfl) rfl rfl _ rfl rfl _ rfl hS2 ?_
          simp only [Act.put, List.setIfInBounds_toArray, List.set_cons_zero, List.set_cons_succ]
          refine held_assign 7 (some 7) (by kernel_rfl) rfl rfl _ rfl rfl _ rfl hS2 ?_
          simp only [Act.put, List.setIfInBounds_toArray, List.set_cons_zero, List.set_cons_succ]
          refine wpAnyH_done (by kernel_rfl) ?_ _
          refine NoPanic.normal ?_
          obtain ⟨hA2, hB2⟩ := hS2
          have hs2 : wr.heap.size ≤ w2.heap.size := Nat.le_trans hW1.size hW2.size
          have hC2 := (hC.below hW1 (by omega)).below hW2 (by have := hW1.size; omega)
          have hWW : Below w.heap.size w w2 := (hW.trans (hW1.mono (by omega))).trans (hW2.mono (by have := hW1.size; omega))
          have xb := lead_bd HR.out.1 (T + 2) (T + 1) (T)
          have yb := lead_bd HR.out.2.1 (T + 2) (T + 1) (T)
          obtain ⟨N', hN0, hN1, hNe⟩ := lead_split HR.out.1 (T) (by have := HT.out; omega) (by have := HT.out; omega)
          obtain ⟨B', hB0, hB1, hBe⟩ := lead_split HR.out.2.1 (T) (by have := HT.out; omega) (by have := HT.out; omega)
          generalize hX : (pc.getD (T + 2) 0 * 1000000 + pc.getD (T + 1) 0) * 1000000 + pc.getD (T) 0 = X at xb hNe ⊢
          generalize hY : (qc.getD (T + 2) 0 * 1000000 + qc.getD (T + 1) 0) * 1000000 + qc.getD (T) 0 = Y at yb hBe ⊢
          obtain ⟨x0, x1⟩ := xb
          obtain ⟨y0, y1⟩ := yb
          clear hX hY hS hS1 hA hBq hC hW hW1 hW2
          have HT0 : Hid (T = 0) := by have := HT.out; unfold Hid; omega
          have HN := hide (And.intro hNe hBe)
          have HN2 := hide (And.intro (And.intro hN0 hN1) (And.intro hB0 hB1))
          clear hNe hBe hN0 hN1 hB0 hB1
          go_wp2_with fail
          refine (gcdOf_any X Y w2 x0 x1 y0 y1).mono ?_
          rintro e w3 ⟨rfl, hW3⟩
          have hXn : X = (a : Int) := by
            have h1 := HN.out.1
            have h2 := HN2.out.1
            rw [HT0.out] at h1 h2
            simp only [Int.pow_zero] at h1 h2
            omega
          have hYn : Y = (gk : Int) := by
            have h1 := HN.out.2
            have h2 := HN2.out.2
            rw [HT0.out] at h1 h2
            simp only [Int.pow_zero] at h1 h2
            omega
          have hgc : Int.gcd X Y = Nat.gcd a gk := by rw [hXn, hYn]; simp [Int.gcd]
          have hgk : 0 < gk := by
            rcases Nat.eq_zero_or_pos gk with h | h
            · have := HR.out.2.1.zero_iff.2 h; omega
            · exact h
          have hgle : Nat.gcd a gk ≤ gk := Nat.gcd_le_right _ hgk
          rw [hgc]
          have HE : Hid (Nat.gcd a gk = Nat.gcd n m) := HR.out.2.2
          obtain ⟨G, hG⟩ : ∃ G : Int, G = ((Nat.gcd a gk : Nat) : Int) := ⟨_, rfl⟩
          have hG1 : G ≤ 999999999999999999 := by omega
          have hG0 : 0 ≤ G := by omega
          rw [← hG]
          have HG := hide hG
          clear hG hgle hXn hYn hgc hgk x0 x1 y0 y1
          go_wp2_with fail
          refine (natOf_big (Nat.gcd a gk) G w3 HG.out hG0 hG1).mono ?_
          rintro e w4 ⟨i, r, rfl, hR4, hW4⟩
          have hr := hR4.len
          have hC4 := (hC2.below hW3 (by omega)).below hW4 (by have := hW3.size; omega)
          have hW5 : Below w.heap.size w w4 := (hWW.trans (hW3.mono (by omega))).trans (hW4.mono (by have := hW3.size; omega))
          have HR4 : Hid (Rep (Nat.gcd n m) i r) := by unfold Hid; rw [← HE.out]; exact hR4
          clear hR4 hA2 hB2 hC2 hWW hW3 hW4 HR HE
          go_wp2_with (refine store_nat rfl _ _ rfl rfl (w.heap.size + 1 + 1) i r rfl rfl 0 zP hC4 zP_len hr ?_; intro w5 hN5 hg5 hs5)
          refine bodyPost_ret (v := .agg (natC i r)) (res_nat Tryz.results18 _ _ (w.heap.size + 1 + 1) _ _ rfl hN5 hr) rfl ⟨i, r, rfl, HR4.out, ?_⟩
          exact hW5.grown hg5 (by have := hW5.size; omega) (by intro k hk; cases hk; omega)
        · obtain ⟨T, hT⟩ : ∃ T : Nat, jc = T + 3 := ⟨jc - 3, by omega⟩
          have HT := hide hT
          clear hT
          go_wp2
          clear a0
          refine held_begin (fun w' => NatAt w' w.heap.size kc pc ∧ NatAt w' (w.heap.size + 1) jc qc) (by kernel_rfl) ?_
          have hS : NatAt wr.drew w.heap.size kc pc ∧ NatAt wr.drew (w.heap.size + 1) jc qc := ⟨hA, hBq⟩
          refine held_load 0 (some 19) rfl rfl (by kernel_rfl) (by kernel_rfl) (by kernel_rfl) noPanic_put rfl _ rfl w.heap.size rfl kc pc (fun _ h => h.1) hpc hS ?_
          simp only [Act.put, List.setIfInBounds_toArray, List.set_cons_zero, List.set_cons_succ]
          refine held_val 1 (some 20) rfl rfl (by kernel_rfl) (by kernel_rfl) (by kernel_rfl) noPanic_put rfl (.int .i64 (jc : Int)) (fun _ => by go_simp) hS ?_
          simp only [Act.put, List.setIfInBounds_toArray, List.set_cons_zero, List.set_cons_succ]
          refine held_load 3 (some 22) rfl rfl (by kernel_rfl) (by kernel_rfl) (by kernel_rfl) noPanic_put rfl _ rfl (w.heap.size + 1) rfl jc qc (fun _ h => h.2) hqc hS ?_
          simp only [Act.put, List.setIfInBounds_toArray, List.set_cons_zero, List.set_cons_succ]
          refine held_val 4 (some 23) rfl rfl (by kernel_rfl) (by kernel_rfl) (by kernel_rfl) noPanic_put rfl (.int .i64 (jc : Int)) (fun _ => by go_simp) hS ?_
          simp only [Act.put, List.setIfInBounds_toArray, List.set_cons_zero, List.set_cons_succ]
          refine held_call 2 (some 21) (by kernel_rfl) rfl rfl rfl 38 #[.agg (natC kc pc), .int .i64 (jc : Int)] (by go_simp) _ (lead_any (T) (jc) wr.drew HR.out.1 HT.out (by omega)) ?_
          rintro e w1 ⟨rfl, hW1⟩
          have hW1 : Below wr.heap.size wr w1 := ⟨hW1.os, hW1.tape, hW1.output, hW1.size, hW1.block⟩
          have hS1 : NatAt w1 w.heap.size kc pc ∧ NatAt w1 (w.heap.size + 1) jc qc := ⟨hA.below hW1 (by omega), hBq.below hW1 (by omega)⟩
          refine ⟨_, rfl, hS1, ?_⟩
          simp only [Act.put, List.setIfInBounds_toArray, List.set_cons_zero, List.set_cons_succ]
          refine held_call 5 (some 24) (by kernel_rfl) rfl rfl rfl 38 #[.agg (natC jc qc), .int .i64 (jc : Int)] (by go_simp) _ (lead_any (T) (jc) w1 HR.out.2.1 HT.out (by omega)) ?_
          rintro e w2 ⟨rfl, hW2⟩
          have hS2 : NatAt w2 w.heap.size kc pc ∧ NatAt w2 (w.heap.size + 1) jc qc := ⟨hS1.1.below hW2 (by have := hW1.size; omega), hS1.2.below hW2 (by have := hW1.size; omega)⟩
          refine ⟨_, rfl, hS2, ?_⟩
          simp only [Act.put, List.setIfInBounds_toArray, List.set_cons_zero, List.set_cons_succ]
          refine held_assign 6 (some 6) (by kernel_rfl) rfl rfl _ rfl rfl _ rfl hS2 ?_
          simp only [Act.put, List.setIfInBounds_toArray, List.set_cons_zero, List.set_cons_succ]
          refine held_assign 7 (some 7) (by kernel_rfl) rfl rfl _ rfl rfl _ rfl hS2 ?_
          simp only [Act.put, List.setIfInBounds_toArray, List.set_cons_zero, List.set_cons_succ]
          refine wpAnyH_done (by kernel_rfl) ?_ _
          refine NoPanic.normal ?_
          obtain ⟨hA2, hB2⟩ := hS2
          have hs2 : wr.heap.size ≤ w2.heap.size := Nat.le_trans hW1.size hW2.size
          have hC2 := (hC.below hW1 (by omega)).below hW2 (by have := hW1.size; omega)
          have hWW : Below w.heap.size w w2 := (hW.trans (hW1.mono (by omega))).trans (hW2.mono (by have := hW1.size; omega))
          have xb := lead_bd HR.out.1 (T + 2) (T + 1) (T)
          have yb := lead_bd HR.out.2.1 (T + 2) (T + 1) (T)
          obtain ⟨N', hN0, hN1, hNe⟩ := lead_split HR.out.1 (T) (by have := HT.out; omega) (by have := HT.out; omega)
          obtain ⟨B', hB0, hB1, hBe⟩ := lead_split HR.out.2.1 (T) (by have := HT.out; omega) (by have := HT.out; omega)
          generalize hX : (pc.getD (T + 2) 0 * 1000000 + pc.getD (T + 1) 0) * 1000000 + pc.getD (T) 0 = X at xb hNe ⊢
          generalize hY : (qc.getD (T + 2) 0 * 1000000 + qc.getD (T + 1) 0) * 1000000 + qc.getD (T) 0 = Y at yb hBe ⊢
          obtain ⟨x0, x1⟩ := xb
          obtain ⟨y0, y1⟩ := yb
          clear hX hY hS hS1 hA hBq hC hW hW1 hW2
          by_cases h3 : (jc : Int) = 3
          · have HT0 : Hid (T = 0) := by have := HT.out; unfold Hid; omega
            have e0 : ((jc : Int) == 3) = true := by simp [h3]
            clear h3
            have HN := hide (And.intro hNe hBe)
            have HN2 := hide (And.intro (And.intro hN0 hN1) (And.intro hB0 hB1))
            clear hNe hBe hN0 hN1 hB0 hB1
            go_wp2_with fail
            refine (gcdOf_any X Y w2 x0 x1 y0 y1).mono ?_
            rintro e w3 ⟨rfl, hW3⟩
            have hXn : X = (a : Int) := by
              have h1 := HN.out.1
              have h2 := HN2.out.1
              rw [HT0.out] at h1 h2
              simp only [Int.pow_zero] at h1 h2
              omega
            have hYn : Y = (gk : Int) := by
              have h1 := HN.out.2
              have h2 := HN2.out.2
              rw [HT0.out] at h1 h2
              simp only [Int.pow_zero] at h1 h2
              omega
            have hgc : Int.gcd X Y = Nat.gcd a gk := by rw [hXn, hYn]; simp [Int.gcd]
            have hgk : 0 < gk := by
              rcases Nat.eq_zero_or_pos gk with h | h
              · have := HR.out.2.1.zero_iff.2 h; omega
              · exact h
            have hgle : Nat.gcd a gk ≤ gk := Nat.gcd_le_right _ hgk
            rw [hgc]
            have HE : Hid (Nat.gcd a gk = Nat.gcd n m) := HR.out.2.2
            obtain ⟨G, hG⟩ : ∃ G : Int, G = ((Nat.gcd a gk : Nat) : Int) := ⟨_, rfl⟩
            have hG1 : G ≤ 999999999999999999 := by omega
            have hG0 : 0 ≤ G := by omega
            rw [← hG]
            have HG := hide hG
            clear hG hgle hXn hYn hgc hgk x0 x1 y0 y1
            go_wp2_with fail
            refine (natOf_big (Nat.gcd a gk) G w3 HG.out hG0 hG1).mono ?_
            rintro e w4 ⟨i, r, rfl, hR4, hW4⟩
            have hr := hR4.len
            have hC4 := (hC2.below hW3 (by omega)).below hW4 (by have := hW3.size; omega)
            have hW5 : Below w.heap.size w w4 := (hWW.trans (hW3.mono (by omega))).trans (hW4.mono (by have := hW3.size; omega))
            have HR4 : Hid (Rep (Nat.gcd n m) i r) := by unfold Hid; rw [← HE.out]; exact hR4
            clear hR4 hA2 hB2 hC2 hWW hW3 hW4 HR HE
            go_wp2_with (refine store_nat rfl _ _ rfl rfl (w.heap.size + 1 + 1) i r rfl rfl 0 zP hC4 zP_len hr ?_; intro w5 hN5 hg5 hs5)
            refine bodyPost_ret (v := .agg (natC i r)) (res_nat Tryz.results18 _ _ (w.heap.size + 1 + 1) _ _ rfl hN5 hr) rfl ⟨i, r, rfl, HR4.out, ?_⟩
            exact hW5.grown hg5 (by have := hW5.size; omega) (by intro k hk; cases hk; omega)
          · have e0 : ((jc : Int) == 3) = false := by simp [h3]
            clear h3
            go_wp2_with fail
            refine (sureSteps_any X Y (1000000 ^ (T)) N' B' w2 x0 x1 y0 y1 hN0 hN1 hB0 hB1).mono ?_
            rintro e w3 ⟨x, y, n1, b1, n2, b2, rfl, hM, hW3⟩
            rw [← hNe, ← hBe] at hM
            have hl1 := mix_low (S := 1000000 ^ (T)) hM.hx hM.a1 hM.a2 (by rcases hM.sg with s | s <;> omega) hN0 hN1 hB0 hB1
            have hl2 := mix_low (S := 1000000 ^ (T)) hM.hy hM.c1 hM.c2 (by rcases hM.sg with s | s <;> omega) hN0 hN1 hB0 hB1
            rw [← hNe, ← hBe] at hl1 hl2
            have HM := hide hM
            have HL := hide (And.intro hl1 hl2)
            clear hM hl1 hl2 hNe hBe hN0 hN1 hB0 hB1 x0 x1 y0 y1
            have hs3 := hW3.size
            have hA3 := (hA2.below hW3 (by have := hA2.lt; omega)).old (.cells (mixC 0 0 0 0) 73)
            have hB3 := (hB2.below hW3 (by have := hB2.lt; omega)).old (.cells (mixC 0 0 0 0) 73)
            have hC3 := (hC2.below hW3 (by have := hC2.lt; omega)).old (.cells (mixC 0 0 0 0) 73)
            have hWw : Below w.heap.size w w3 := hWW.trans (hW3.mono (by omega))
            have hW4 : Below w.heap.size w (w3.alloc (.cells (mixC 0 0 0 0) 73)) := hWw.alloc (by omega) _
            have hMx := MixAt.new w3 0 0 0 0
            have lC := hC2.lt
            clear hA2 hB2 hC2 hW3 hWW
            by_cases hb1 : b1 = 0
            · subst hb1
              have e1 : ((0 : Int) != 0) = false := rfl
              go_wp2_with (first | (refine store_mix rfl _ _ rfl rfl w3.heap.size n1 0 n2 b2 rfl rfl 0 0 0 0 hMx ?_; intro w4 hM4 hg4 hs4; have c1 := hM4.c1; have hA4 := hA3.grown hg4 (by first | (simp; done) | (simp; omega)); have hB4 := hB3.grown hg4 (by first | (simp; done) | (simp; omega))) | (refine load_nat rfl _ rfl w.heap.size rfl kc pc hA4 hpc ?_) | (refine load_nat rfl _ rfl (w.heap.size + 1) rfl jc qc hB4 hqc ?_))
              have hC4 := hC3.grown hg4 (by first | (simp; done) | (simp; omega))
              have hW5 : Below w.heap.size w w4 := hW4.grown hg4 (by simp; omega) (by intro k hk; cases hk; omega)
              have hs4' : w4.heap.size = w3.heap.size + 1 := by rw [hs4]; simp
              clear hA3 hB3 hC3 hW4 hWw hMx hg4 hs4 hM4 c1 HM HL
              refine (divide_any w4 HR.out.1 HR.out.2.1 h0 hkc).mono ?_
              rintro e w1 ⟨i, j', r, s, rfl, hR1, hR2, hW1⟩
              have hr := hR1.len
              have hs := hR2.len
              have hg0 : gk ≠ 0 := fun e => by have := HR.out.2.1.zero_iff.2 e; omega
              have hlt : a % gk < gk := Nat.mod_lt _ (by omega)
              have hjs := hR2.cnt_le HR.out.2.1 (by omega)
              have HR' : Hid (Rep gk jc qc ∧ Rep (a % gk) j' s ∧ Nat.gcd gk (a % gk) = Nat.gcd n m) := by
                refine ⟨HR.out.2.1, hR2, ?_⟩
                rw [← HR.out.2.2, Nat.gcd_comm a gk, Nat.gcd_rec gk a, Nat.gcd_comm]
              have hsr := hW5.size
              have hA1 := hA4.below hW1 (by omega)
              have hB1 := hB4.below hW1 (by omega)
              have hC1 := hC4.below hW1 (by omega)
              have hW1' : Below w.heap.size w w1 := hW5.trans (hW1.mono (by omega))
              have hs1 := hW1.size
              have F1 := (NatAt.new w1 0 zP).old (.cells (natC 0 zP) 32)
              have F2 := NatAt.new (w1.alloc (.cells (natC 0 zP) 32)) 0 zP
              simp only [World.size_alloc] at F2
              clear hR1 hR2 HR hA4 hB4 hC4 hW5 hW1 b0
              go_wp2_with (first | (refine store_nat rfl _ _ rfl rfl w1.heap.size i r rfl rfl 0 zP F1 zP_len hr ?_; intro w0 hN0 hg0' hs0) | (refine store_nat rfl _ _ rfl rfl (w1.heap.size + 1) j' s rfl rfl 0 zP (F2.grown hg0' (by first | (simp; done) | (simp; omega))) zP_len hs ?_; intro w2 hN2 hg2 hs2))
              have hs2' : w2.heap.size = w1.heap.size + 1 + 1 := by rw [hs2, hs0]; simp
              have hA2 := (((hA1.old (.cells (natC 0 zP) 32)).old (.cells (natC 0 zP) 32)).grown hg0' (by first | (simp; done) | (simp; omega))).grown hg2 (by first | (simp; done) | (simp; omega))
              have hB2 := (((hB1.old (.cells (natC 0 zP) 32)).old (.cells (natC 0 zP) 32)).grown hg0' (by first | (simp; done) | (simp; omega))).grown hg2 (by first | (simp; done) | (simp; omega))
              have hC2 := (((hC1.old (.cells (natC 0 zP) 32)).old (.cells (natC 0 zP) 32)).grown hg0' (by first | (simp; done) | (simp; omega))).grown hg2 (by first | (simp; done) | (simp; omega))
              have hW2 : Below w.heap.size w w2 := (((hW1'.alloc (by omega) _).alloc (by first | (simp; done) | (simp; omega)) _).grown hg0' (by first | (simp; done) | (simp; omega)) (by intro k hk; cases hk; omega)).grown hg2 (by rw [hs0]; simp; omega) (by intro k hk; cases hk; omega)
              clear hA1 hB1 hC1 hW1' F1 F2 hg2 hs2 hg0' hs0 hN0
              refine held_begin (fun w' => NatAt w' (w1.heap.size + 1) j' s) (by kernel_rfl) ?_
              have hS : NatAt w2.drew (w1.heap.size + 1) j' s := hN2
              refine held_load 1 (some 58) rfl rfl (by kernel_rfl) (by kernel_rfl) (by kernel_rfl) noPanic_put rfl _ rfl (w1.heap.size + 1) rfl j' s (fun _ h => h) hs hS ?_
              simp only [Act.put, List.setIfInBounds_toArray, List.set_cons_zero, List.set_cons_succ]
              refine held_load1 0 (some 57) (by kernel_rfl) rfl rfl rfl _ rfl (w.heap.size + 1) rfl jc qc hB2 hqc hS ?_
              simp only [Act.put, List.setIfInBounds_toArray, List.set_cons_zero, List.set_cons_succ]
              refine held_store 2 (by kernel_rfl) rfl rfl _ _ rfl rfl w.heap.size jc qc rfl rfl kc pc hA2 hpc hqc ?_
              intro w5 hN5 hg5 hs5
              have hN25 := hN2.grown (w := w2.drew) hg5 (by first | (simp; done) | (simp; omega))
              refine ⟨hN25, ?_⟩
              refine held_store 3 (by kernel_rfl) rfl rfl _ _ rfl rfl (w.heap.size + 1) j' s rfl rfl jc qc (hB2.grown (w := w2.drew) hg5 (by first | (simp; done) | (simp; omega))) hqc hs ?_
              intro w6 hN6 hg6 hs6
              refine ⟨hN25.grown hg6 (by first | (simp; done) | (simp; omega)), ?_⟩
              refine wpAnyH_done (by kernel_rfl) ?_ _
              refine NoPanic.normal ?_
              go_wp2
              have hB5 : Below w.heap.size w w5 := hW2.drew.grown hg5 (by have := hW2.size; simp; omega) (by intro k hk; cases hk; omega)
              go_roundg (a % gk)
              case measure => omega
              case rel =>
                exact ⟨gk, jc, j', qc, s, HR', by omega, by omega, hqc, hs, hN5.grown hg6 (by first | (simp; done) | (simp; omega)), hN6, (hC2.grown (w := w2.drew) hg5 (by first | (simp; done) | (simp; omega))).grown hg6 (by first | (simp; done) | (simp; omega)), hB5.grown hg6 (by have := hB5.size; omega) (by intro k hk; cases hk; omega)⟩
            · have e1 : (b1 != 0) = true := by simp [hb1]
              go_wp2_with (refine store_mix rfl _ _ rfl rfl w3.heap.size n1 b1 n2 b2 rfl rfl 0 0 0 0 hMx ?_; intro w4 hM4 hg4 hs4; have c1 := hM4.c1)
              have hA4 := hA3.grown hg4 (by first | (simp; done) | (simp; omega))
              have hB4 := hB3.grown hg4 (by first | (simp; done) | (simp; omega))
              have hC4 := hC3.grown hg4 (by first | (simp; done) | (simp; omega))
              have hW5 : Below w.heap.size w w4 := hW4.grown hg4 (by simp; omega) (by intro k hk; cases hk; omega)
              have hs4' : w4.heap.size = w3.heap.size + 1 := by rw [hs4]; simp
              obtain ⟨v1, hv1⟩ : ∃ v : Nat, n1 * (a : Int) + b1 * (gk : Int) = (v : Int) := ⟨(n1 * (a : Int) + b1 * (gk : Int)).toNat, by have := HL.out.1; omega⟩
              obtain ⟨v2, hv2⟩ : ∃ v : Nat, n2 * (a : Int) + b2 * (gk : Int) = (v : Int) := ⟨(n2 * (a : Int) + b2 * (gk : Int)).toNat, by have := HL.out.2; omega⟩
              have hst : v2 < v1 ∧ v1 ≤ gk := by
                rcases HM.out.st with h | h
                · exact absurd h.2.1 hb1
                · rw [hv1, hv2] at h; omega
              have hgc : Nat.gcd v1 v2 = Nat.gcd n m := by
                have h := HM.out.gc
                rw [hv1, hv2] at h
                rw [← HR.out.2.2]
                simpa [Int.gcd] using h
              clear hA3 hB3 hC3 hW4 hWw hMx hg4 hs4 c1 HL
              refine late_begin [14, 15] (fun w' => NatAt w' w.heap.size kc pc ∧ NatAt w' (w.heap.size + 1) jc qc ∧ MixAt w' w3.heap.size n1 b1 n2 b2) (by kernel_rfl) ?_
              have hS : NatAt w4.drew w.heap.size kc pc ∧ NatAt w4.drew (w.heap.size + 1) jc qc ∧ MixAt w4.drew w3.heap.size n1 b1 n2 b2 := ⟨hA4, hB4, hM4⟩
              refine late_val 0 (some 37) rfl rfl (by kernel_rfl) (by kernel_rfl) (by kernel_rfl) [6, 14, 15] (by kernel_rfl) noPanic_put rfl (.agg (natC kc pc)) (fun _ h => run_nat0 _ rfl w.heap.size rfl kc pc hpc h.1) hS ?_
              simp only [Act.put, List.setIfInBounds_toArray, List.set_cons_zero, List.set_cons_succ]
              refine late_val 1 (some 38) rfl rfl (by kernel_rfl) (by kernel_rfl) (by kernel_rfl) [2, 6, 14, 15] (by kernel_rfl) noPanic_put rfl (.pointer (some ⟨w3.heap.size, 0, none⟩)) (fun _ _ => by go_simp) hS ?_
              simp only [Act.put, List.setIfInBounds_toArray, List.set_cons_zero, List.set_cons_succ]
              refine late_val 2 (some 39) rfl rfl (by kernel_rfl) (by kernel_rfl) (by kernel_rfl) [6, 14, 15] (by kernel_rfl) noPanic_put rfl (.int .i64 n1) (fun _ h => by have c := h.2.2.c0; go_simp) hS ?_
              simp only [Act.put, List.setIfInBounds_toArray, List.set_cons_zero, List.set_cons_succ]
              refine late_val 3 (some 40) rfl rfl (by kernel_rfl) (by kernel_rfl) (by kernel_rfl) [6, 14, 15] (by kernel_rfl) noPanic_put rfl (.agg (natC jc qc)) (fun _ h => run_nat0 _ rfl (w.heap.size + 1) rfl jc qc hqc h.2.1) hS ?_
              simp only [Act.put, List.setIfInBounds_toArray, List.set_cons_zero, List.set_cons_succ]
              refine late_val 4 (some 41) rfl rfl (by kernel_rfl) (by kernel_rfl) (by kernel_rfl) [5, 6, 14, 15] (by kernel_rfl) noPanic_put rfl (.pointer (some ⟨w3.heap.size, 1, none⟩)) (fun _ _ => by go_simp) hS ?_
              simp only [Act.put, List.setIfInBounds_toArray, List.set_cons_zero, List.set_cons_succ]
              refine late_val 5 (some 42) rfl rfl (by kernel_rfl) (by kernel_rfl) (by kernel_rfl) [6, 14, 15] (by kernel_rfl) noPanic_put rfl (.int .i64 b1) (fun _ h => by have c := h.2.2.c1; go_simp) hS ?_
              simp only [Act.put, List.setIfInBounds_toArray, List.set_cons_zero, List.set_cons_succ]
              refine late_val 7 (some 44) rfl rfl (by kernel_rfl) (by kernel_rfl) (by kernel_rfl) [13, 14, 15] (by kernel_rfl) noPanic_put rfl (.agg (natC kc pc)) (fun _ h => run_nat0 _ rfl w.heap.size rfl kc pc hpc h.1) hS ?_
              simp only [Act.put, List.setIfInBounds_toArray, List.set_cons_zero, List.set_cons_succ]
              refine late_val 8 (some 45) rfl rfl (by kernel_rfl) (by kernel_rfl) (by kernel_rfl) [9, 13, 14, 15] (by kernel_rfl) noPanic_put rfl (.pointer (some ⟨w3.heap.size, 2, none⟩)) (fun _ _ => by go_simp) hS ?_
              simp only [Act.put, List.setIfInBounds_toArray, List.set_cons_zero, List.set_cons_succ]
              refine late_val 9 (some 46) rfl rfl (by kernel_rfl) (by kernel_rfl) (by kernel_rfl) [13, 14, 15] (by kernel_rfl) noPanic_put rfl (.int .i64 n2) (fun _ h => by have c := h.2.2.c2; go_simp) hS ?_
              simp only [Act.put, List.setIfInBounds_toArray, List.set_cons_zero, List.set_cons_succ]
              refine late_val 10 (some 47) rfl rfl (by kernel_rfl) (by kernel_rfl) (by kernel_rfl) [13, 14, 15] (by kernel_rfl) noPanic_put rfl (.agg (natC jc qc)) (fun _ h => run_nat0 _ rfl (w.heap.size + 1) rfl jc qc hqc h.2.1) hS ?_
              simp only [Act.put, List.setIfInBounds_toArray, List.set_cons_zero, List.set_cons_succ]
              refine late_val 11 (some 48) rfl rfl (by kernel_rfl) (by kernel_rfl) (by kernel_rfl) [12, 13, 14, 15] (by kernel_rfl) noPanic_put rfl (.pointer (some ⟨w3.heap.size, 3, none⟩)) (fun _ _ => by go_simp) hS ?_
              simp only [Act.put, List.setIfInBounds_toArray, List.set_cons_zero, List.set_cons_succ]
              refine late_val 12 (some 49) rfl rfl (by kernel_rfl) (by kernel_rfl) (by kernel_rfl) [13, 14, 15] (by kernel_rfl) noPanic_put rfl (.int .i64 b2) (fun _ h => by have c := h.2.2.c3; go_simp) hS ?_
              simp only [Act.put, List.setIfInBounds_toArray, List.set_cons_zero, List.set_cons_succ]
              refine late_call 6 (some 43) (by kernel_rfl) rfl rfl rfl 42 #[.agg (natC kc pc), .int .i64 n1, .agg (natC jc qc), .int .i64 b1] (by go_simp) _ (combined_any n1 b1 w4.drew v1 HR.out.1 HR.out.2.1 hkc hjc HM.out.bd.1 HM.out.bd.2.1 hv1) ?_
              rintro e w5 ⟨i, r, rfl, hR1, hW1⟩
              have hW1 : Below w4.heap.size w4 w5 := ⟨hW1.os, hW1.tape, hW1.output, hW1.size, hW1.block⟩
              have hs5 := hW1.size
              have hr := hR1.len
              have hS1 : NatAt w5 w.heap.size kc pc ∧ NatAt w5 (w.heap.size + 1) jc qc ∧ MixAt w5 w3.heap.size n1 b1 n2 b2 := ⟨hA4.below hW1 (by omega), hB4.below hW1 (by omega), hM4.below hW1 (by omega)⟩
              refine ⟨_, rfl, .inr hS1, ?_⟩
              simp only [Act.put, List.setIfInBounds_toArray, List.set_cons_zero, List.set_cons_succ]
              refine late_call 13 (some 50) (by kernel_rfl) rfl rfl rfl 42 #[.agg (natC kc pc), .int .i64 n2, .agg (natC jc qc), .int .i64 b2] (by go_simp) _ (combined_any n2 b2 w5 v2 HR.out.1 HR.out.2.1 hkc hjc HM.out.bd.2.2.1 HM.out.bd.2.2.2 hv2) ?_
              rintro e w6 ⟨j', s, rfl, hR2, hW2⟩
              have hs6 := hW2.size
              have hs := hR2.len
              have hS2 : NatAt w6 w.heap.size kc pc ∧ NatAt w6 (w.heap.size + 1) jc qc ∧ MixAt w6 w3.heap.size n1 b1 n2 b2 := ⟨hS1.1.below hW2 (by omega), hS1.2.1.below hW2 (by omega), hS1.2.2.below hW2 (by omega)⟩
              refine ⟨_, rfl, .inr hS2, ?_⟩
              simp only [Act.put, List.setIfInBounds_toArray, List.set_cons_zero, List.set_cons_succ]
              have hC6 := (hC4.below hW1 (by omega)).below hW2 (by omega)
              have hsr := hW5.size
              have hW6 : Below w.heap.size w w6 := (hW5.trans (hW1.mono (by omega))).trans (hW2.mono (by omega))
              refine late_store 14 (by kernel_rfl) rfl rfl _ _ rfl rfl w.heap.size i r rfl rfl kc pc hS2.1 hpc hr ?_
              intro w7 hN7 hg7 hs7
              refine ⟨.inl ⟨14, by simp, rfl⟩, ?_⟩
              refine late_store 15 (by kernel_rfl) rfl rfl _ _ rfl rfl (w.heap.size + 1) j' s rfl rfl jc qc (hS2.2.1.grown hg7 (by first | (simp; done) | (simp; omega))) hqc hs ?_
              intro w8 hN8 hg8 hs8
              refine ⟨.inl ⟨14, by simp, rfl⟩, ?_⟩
              refine late_done (by kernel_rfl) ?_ _
              refine NoPanic.normal ?_
              have hki := hR1.cnt_le HR.out.2.1 hst.2
              have hji := hR2.cnt_le HR.out.2.1 (by omega)
              have HR' : Hid (Rep v1 i r ∧ Rep v2 j' s ∧ Nat.gcd v1 v2 = Nat.gcd n m) := ⟨hR1, hR2, hgc⟩
              have hA8 := hN7.grown hg8 (by first | (simp; done) | (simp; omega))
              have hC8 := (hC6.grown hg7 (by first | (simp; done) | (simp; omega))).grown hg8 (by first | (simp; done) | (simp; omega))
              have hW8 : Below w.heap.size w w8 := (hW6.grown hg7 (by omega) (by intro k hk; cases hk; omega)).grown hg8 (by omega) (by intro k hk; cases hk; omega)
              clear hS hS1 hS2 hA4 hB4 hC4 hM4 hW1 hW2 hW5 hW6 hC6 hR1 hR2 HR HM b0 hg7 hg8 hN7
              go_wp2
              go_roundg v2
              case measure => omega
              case rel => exact ⟨v1, i, j', r, s, HR', by omega, by omega, hr, hs, hA8, hN8, hC8, hW8⟩
      · rcases Int.lt_or_le (kc : Int) 3 with q2 | q2
        · obtain ⟨T, hT⟩ : ∃ T : Nat, 3 = T + 3 := ⟨3 - 3, by omega⟩
          have HT := hide hT
          clear hT
          go_wp2
          clear a0
          refine held_begin (fun w' => NatAt w' w.heap.size kc pc ∧ NatAt w' (w.heap.size + 1) jc qc) (by kernel_rfl) ?_
          have hS : NatAt wr.drew w.heap.size kc pc ∧ NatAt wr.drew (w.heap.size + 1) jc qc := ⟨hA, hBq⟩
          refine held_load 0 (some 19) rfl rfl (by kernel_rfl) (by kernel_rfl) (by kernel_rfl) noPanic_put rfl _ rfl w.heap.size rfl kc pc (fun _ h => h.1) hpc hS ?_
          simp only [Act.put, List.setIfInBounds_toArray, List.set_cons_zero, List.set_cons_succ]
          refine held_val 1 (some 20) rfl rfl (by kernel_rfl) (by kernel_rfl) (by kernel_rfl) noPanic_put rfl (.int .i64 (3 : Int)) (fun _ => by go_simp) hS ?_
          simp only [Act.put, List.setIfInBounds_toArray, List.set_cons_zero, List.set_cons_succ]
          refine held_load 3 (some 22) rfl rfl (by kernel_rfl) (by kernel_rfl) (by kernel_rfl) noPanic_put rfl _ rfl (w.heap.size + 1) rfl jc qc (fun _ h => h.2) hqc hS ?_
          simp only [Act.put, List.setIfInBounds_toArray, List.set_cons_zero, List.set_cons_succ]
          refine held_val 4 (some 23) rfl rfl (by kernel_rfl) (by kernel_rfl) (by kernel_rfl) noPanic_put rfl (.int .i64 (3 : Int)) (fun _ => by go_simp) hS ?_
          simp only [Act.put, List.setIfInBounds_toArray, List.set_cons_zero, List.set_cons_succ]
          refine held_call 2 (some 21) (by kernel_rfl) rfl rfl rfl 38 #[.agg (natC kc pc), .int .i64 (3 : Int)] (by go_simp) _ (lead_any (T) (3) wr.drew HR.out.1 HT.out (by omega)) ?_
          rintro e w1 ⟨rfl, hW1⟩
          have hW1 : Below wr.heap.size wr w1 := ⟨hW1.os, hW1.tape, hW1.output, hW1.size, hW1.block⟩
          have hS1 : NatAt w1 w.heap.size kc pc ∧ NatAt w1 (w.heap.size + 1) jc qc := ⟨hA.below hW1 (by omega), hBq.below hW1 (by omega)⟩
          refine ⟨_, rfl, hS1, ?_⟩
          simp only [Act.put, List.setIfInBounds_toArray, List.set_cons_zero, List.set_cons_succ]
          refine held_call 5 (some 24) (by kernel_rfl) rfl rfl rfl 38 #[.agg (natC jc qc), .int .i64 (3 : Int)] (by go_simp) _ (lead_any (T) (3) w1 HR.out.2.1 HT.out (by omega)) ?_
          rintro e w2 ⟨rfl, hW2⟩
          have hS2 : NatAt w2 w.heap.size kc pc ∧ NatAt w2 (w.heap.size + 1) jc qc := ⟨hS1.1.below hW2 (by have := hW1.size; omega), hS1.2.below hW2 (by have := hW1.size; omega)⟩
          refine ⟨_, rfl, hS2, ?_⟩
          simp only [Act.put, List.setIfInBounds_toArray, List.set_cons_zero, List.set_cons_succ]
          refine held_assign 6 (some 6) (by kernel_rfl) rfl rfl _ rfl rfl _ rfl hS2 ?_
          simp only [Act.put, List.setIfInBounds_toArray, List.set_cons_zero, List.set_cons_succ]
          refine held_assign 7 (some 7) (by kernel_rfl) rfl rfl _ rfl rfl _ rfl hS2 ?_
          simp only [Act.put, List.setIfInBounds_toArray, List.set_cons_zero, List.set_cons_succ]
          refine wpAnyH_done (by kernel_rfl) ?_ _
          refine NoPanic.normal ?_
          obtain ⟨hA2, hB2⟩ := hS2
          have hs2 : wr.heap.size ≤ w2.heap.size := Nat.le_trans hW1.size hW2.size
          have hC2 := (hC.below hW1 (by omega)).below hW2 (by have := hW1.size; omega)
          have hWW : Below w.heap.size w w2 := (hW.trans (hW1.mono (by omega))).trans (hW2.mono (by have := hW1.size; omega))
          have xb := lead_bd HR.out.1 (T + 2) (T + 1) (T)
          have yb := lead_bd HR.out.2.1 (T + 2) (T + 1) (T)
          obtain ⟨N', hN0, hN1, hNe⟩ := lead_split HR.out.1 (T) (by have := HT.out; omega) (by have := HT.out; omega)
          obtain ⟨B', hB0, hB1, hBe⟩ := lead_split HR.out.2.1 (T) (by have := HT.out; omega) (by have := HT.out; omega)
          generalize hX : (pc.getD (T + 2) 0 * 1000000 + pc.getD (T + 1) 0) * 1000000 + pc.getD (T) 0 = X at xb hNe ⊢
          generalize hY : (qc.getD (T + 2) 0 * 1000000 + qc.getD (T + 1) 0) * 1000000 + qc.getD (T) 0 = Y at yb hBe ⊢
          obtain ⟨x0, x1⟩ := xb
          obtain ⟨y0, y1⟩ := yb
          clear hX hY hS hS1 hA hBq hC hW hW1 hW2
          have HT0 : Hid (T = 0) := by have := HT.out; unfold Hid; omega
          have HN := hide (And.intro hNe hBe)
          have HN2 := hide (And.intro (And.intro hN0 hN1) (And.intro hB0 hB1))
          clear hNe hBe hN0 hN1 hB0 hB1
          go_wp2_with fail
          refine (gcdOf_any X Y w2 x0 x1 y0 y1).mono ?_
          rintro e w3 ⟨rfl, hW3⟩
          have hXn : X = (a : Int) := by
            have h1 := HN.out.1
            have h2 := HN2.out.1
            rw [HT0.out] at h1 h2
            simp only [Int.pow_zero] at h1 h2
            omega
          have hYn : Y = (gk : Int) := by
            have h1 := HN.out.2
            have h2 := HN2.out.2
            rw [HT0.out] at h1 h2
            simp only [Int.pow_zero] at h1 h2
            omega
          have hgc : Int.gcd X Y = Nat.gcd a gk := by rw [hXn, hYn]; simp [Int.gcd]
          have hgk : 0 < gk := by
            rcases Nat.eq_zero_or_pos gk with h | h
            · have := HR.out.2.1.zero_iff.2 h; omega
            · exact h
          have hgle : Nat.gcd a gk ≤ gk := Nat.gcd_le_right _ hgk
          rw [hgc]
          have HE : Hid (Nat.gcd a gk = Nat.gcd n m) := HR.out.2.2
          obtain ⟨G, hG⟩ : ∃ G : Int, G = ((Nat.gcd a gk : Nat) : Int) := ⟨_, rfl⟩
          have hG1 : G ≤ 999999999999999999 := by omega
          have hG0 : 0 ≤ G := by omega
          rw [← hG]
          have HG := hide hG
          clear hG hgle hXn hYn hgc hgk x0 x1 y0 y1
          go_wp2_with fail
          refine (natOf_big (Nat.gcd a gk) G w3 HG.out hG0 hG1).mono ?_
          rintro e w4 ⟨i, r, rfl, hR4, hW4⟩
          have hr := hR4.len
          have hC4 := (hC2.below hW3 (by omega)).below hW4 (by have := hW3.size; omega)
          have hW5 : Below w.heap.size w w4 := (hWW.trans (hW3.mono (by omega))).trans (hW4.mono (by have := hW3.size; omega))
          have HR4 : Hid (Rep (Nat.gcd n m) i r) := by unfold Hid; rw [← HE.out]; exact hR4
          clear hR4 hA2 hB2 hC2 hWW hW3 hW4 HR HE
          go_wp2_with (refine store_nat rfl _ _ rfl rfl (w.heap.size + 1 + 1) i r rfl rfl 0 zP hC4 zP_len hr ?_; intro w5 hN5 hg5 hs5)
          refine bodyPost_ret (v := .agg (natC i r)) (res_nat Tryz.results18 _ _ (w.heap.size + 1 + 1) _ _ rfl hN5 hr) rfl ⟨i, r, rfl, HR4.out, ?_⟩
          exact hW5.grown hg5 (by have := hW5.size; omega) (by intro k hk; cases hk; omega)
        · obtain ⟨T, hT⟩ : ∃ T : Nat, kc = T + 3 := ⟨kc - 3, by omega⟩
          have HT := hide hT
          clear hT
          go_wp2
          clear a0
          refine held_begin (fun w' => NatAt w' w.heap.size kc pc ∧ NatAt w' (w.heap.size + 1) jc qc) (by kernel_rfl) ?_
          have hS : NatAt wr.drew w.heap.size kc pc ∧ NatAt wr.drew (w.heap.size + 1) jc qc := ⟨hA, hBq⟩
          refine held_load 0 (some 19) rfl rfl (by kernel_rfl) (by kernel_rfl) (by kernel_rfl) noPanic_put rfl _ rfl w.heap.size rfl kc pc (fun _ h => h.1) hpc hS ?_
          simp only [Act.put, List.setIfInBounds_toArray, List.set_cons_zero, List.set_cons_succ]
          refine held_val 1 (some 20) rfl rfl (by kernel_rfl) (by kernel_rfl) (by kernel_rfl) noPanic_put rfl (.int .i64 (kc : Int)) (fun _ => by go_simp) hS ?_
          simp only [Act.put, List.setIfInBounds_toArray, List.set_cons_zero, List.set_cons_succ]
          refine held_load 3 (some 22) rfl rfl (by kernel_rfl) (by kernel_rfl) (by kernel_rfl) noPanic_put rfl _ rfl (w.heap.size + 1) rfl jc qc (fun _ h => h.2) hqc hS ?_
          simp only [Act.put, List.setIfInBounds_toArray, List.set_cons_zero, List.set_cons_succ]
          refine held_val 4 (some 23) rfl rfl (by kernel_rfl) (by kernel_rfl) (by kernel_rfl) noPanic_put rfl (.int .i64 (kc : Int)) (fun _ => by go_simp) hS ?_
          simp only [Act.put, List.setIfInBounds_toArray, List.set_cons_zero, List.set_cons_succ]
          refine held_call 2 (some 21) (by kernel_rfl) rfl rfl rfl 38 #[.agg (natC kc pc), .int .i64 (kc : Int)] (by go_simp) _ (lead_any (T) (kc) wr.drew HR.out.1 HT.out (by omega)) ?_
          rintro e w1 ⟨rfl, hW1⟩
          have hW1 : Below wr.heap.size wr w1 := ⟨hW1.os, hW1.tape, hW1.output, hW1.size, hW1.block⟩
          have hS1 : NatAt w1 w.heap.size kc pc ∧ NatAt w1 (w.heap.size + 1) jc qc := ⟨hA.below hW1 (by omega), hBq.below hW1 (by omega)⟩
          refine ⟨_, rfl, hS1, ?_⟩
          simp only [Act.put, List.setIfInBounds_toArray, List.set_cons_zero, List.set_cons_succ]
          refine held_call 5 (some 24) (by kernel_rfl) rfl rfl rfl 38 #[.agg (natC jc qc), .int .i64 (kc : Int)] (by go_simp) _ (lead_any (T) (kc) w1 HR.out.2.1 HT.out (by omega)) ?_
          rintro e w2 ⟨rfl, hW2⟩
          have hS2 : NatAt w2 w.heap.size kc pc ∧ NatAt w2 (w.heap.size + 1) jc qc := ⟨hS1.1.below hW2 (by have := hW1.size; omega), hS1.2.below hW2 (by have := hW1.size; omega)⟩
          refine ⟨_, rfl, hS2, ?_⟩
          simp only [Act.put, List.setIfInBounds_toArray, List.set_cons_zero, List.set_cons_succ]
          refine held_assign 6 (some 6) (by kernel_rfl) rfl rfl _ rfl rfl _ rfl hS2 ?_
          simp only [Act.put, List.setIfInBounds_toArray, List.set_cons_zero, List.set_cons_succ]
          refine held_assign 7 (some 7) (by kernel_rfl) rfl rfl _ rfl rfl _ rfl hS2 ?_
          simp only [Act.put, List.setIfInBounds_toArray, List.set_cons_zero, List.set_cons_succ]
          refine wpAnyH_done (by kernel_rfl) ?_ _
          refine NoPanic.normal ?_
          obtain ⟨hA2, hB2⟩ := hS2
          have hs2 : wr.heap.size ≤ w2.heap.size := Nat.le_trans hW1.size hW2.size
          have hC2 := (hC.below hW1 (by omega)).below hW2 (by have := hW1.size; omega)
          have hWW : Below w.heap.size w w2 := (hW.trans (hW1.mono (by omega))).trans (hW2.mono (by have := hW1.size; omega))
          have xb := lead_bd HR.out.1 (T + 2) (T + 1) (T)
          have yb := lead_bd HR.out.2.1 (T + 2) (T + 1) (T)
          obtain ⟨N', hN0, hN1, hNe⟩ := lead_split HR.out.1 (T) (by have := HT.out; omega) (by have := HT.out; omega)
          obtain ⟨B', hB0, hB1, hBe⟩ := lead_split HR.out.2.1 (T) (by have := HT.out; omega) (by have := HT.out; omega)
          generalize hX : (pc.getD (T + 2) 0 * 1000000 + pc.getD (T + 1) 0) * 1000000 + pc.getD (T) 0 = X at xb hNe ⊢
          generalize hY : (qc.getD (T + 2) 0 * 1000000 + qc.getD (T + 1) 0) * 1000000 + qc.getD (T) 0 = Y at yb hBe ⊢
          obtain ⟨x0, x1⟩ := xb
          obtain ⟨y0, y1⟩ := yb
          clear hX hY hS hS1 hA hBq hC hW hW1 hW2
          by_cases h3 : (kc : Int) = 3
          · have HT0 : Hid (T = 0) := by have := HT.out; unfold Hid; omega
            have e0 : ((kc : Int) == 3) = true := by simp [h3]
            clear h3
            have HN := hide (And.intro hNe hBe)
            have HN2 := hide (And.intro (And.intro hN0 hN1) (And.intro hB0 hB1))
            clear hNe hBe hN0 hN1 hB0 hB1
            go_wp2_with fail
            refine (gcdOf_any X Y w2 x0 x1 y0 y1).mono ?_
            rintro e w3 ⟨rfl, hW3⟩
            have hXn : X = (a : Int) := by
              have h1 := HN.out.1
              have h2 := HN2.out.1
              rw [HT0.out] at h1 h2
              simp only [Int.pow_zero] at h1 h2
              omega
            have hYn : Y = (gk : Int) := by
              have h1 := HN.out.2
              have h2 := HN2.out.2
              rw [HT0.out] at h1 h2
              simp only [Int.pow_zero] at h1 h2
              omega
            have hgc : Int.gcd X Y = Nat.gcd a gk := by rw [hXn, hYn]; simp [Int.gcd]
            have hgk : 0 < gk := by
              rcases Nat.eq_zero_or_pos gk with h | h
              · have := HR.out.2.1.zero_iff.2 h; omega
              · exact h
            have hgle : Nat.gcd a gk ≤ gk := Nat.gcd_le_right _ hgk
            rw [hgc]
            have HE : Hid (Nat.gcd a gk = Nat.gcd n m) := HR.out.2.2
            obtain ⟨G, hG⟩ : ∃ G : Int, G = ((Nat.gcd a gk : Nat) : Int) := ⟨_, rfl⟩
            have hG1 : G ≤ 999999999999999999 := by omega
            have hG0 : 0 ≤ G := by omega
            rw [← hG]
            have HG := hide hG
            clear hG hgle hXn hYn hgc hgk x0 x1 y0 y1
            go_wp2_with fail
            refine (natOf_big (Nat.gcd a gk) G w3 HG.out hG0 hG1).mono ?_
            rintro e w4 ⟨i, r, rfl, hR4, hW4⟩
            have hr := hR4.len
            have hC4 := (hC2.below hW3 (by omega)).below hW4 (by have := hW3.size; omega)
            have hW5 : Below w.heap.size w w4 := (hWW.trans (hW3.mono (by omega))).trans (hW4.mono (by have := hW3.size; omega))
            have HR4 : Hid (Rep (Nat.gcd n m) i r) := by unfold Hid; rw [← HE.out]; exact hR4
            clear hR4 hA2 hB2 hC2 hWW hW3 hW4 HR HE
            go_wp2_with (refine store_nat rfl _ _ rfl rfl (w.heap.size + 1 + 1) i r rfl rfl 0 zP hC4 zP_len hr ?_; intro w5 hN5 hg5 hs5)
            refine bodyPost_ret (v := .agg (natC i r)) (res_nat Tryz.results18 _ _ (w.heap.size + 1 + 1) _ _ rfl hN5 hr) rfl ⟨i, r, rfl, HR4.out, ?_⟩
            exact hW5.grown hg5 (by have := hW5.size; omega) (by intro k hk; cases hk; omega)
          · have e0 : ((kc : Int) == 3) = false := by simp [h3]
            clear h3
            go_wp2_with fail
            refine (sureSteps_any X Y (1000000 ^ (T)) N' B' w2 x0 x1 y0 y1 hN0 hN1 hB0 hB1).mono ?_
            rintro e w3 ⟨x, y, n1, b1, n2, b2, rfl, hM, hW3⟩
            rw [← hNe, ← hBe] at hM
            have hl1 := mix_low (S := 1000000 ^ (T)) hM.hx hM.a1 hM.a2 (by rcases hM.sg with s | s <;> omega) hN0 hN1 hB0 hB1
            have hl2 := mix_low (S := 1000000 ^ (T)) hM.hy hM.c1 hM.c2 (by rcases hM.sg with s | s <;> omega) hN0 hN1 hB0 hB1
            rw [← hNe, ← hBe] at hl1 hl2
            have HM := hide hM
            have HL := hide (And.intro hl1 hl2)
            clear hM hl1 hl2 hNe hBe hN0 hN1 hB0 hB1 x0 x1 y0 y1
            have hs3 := hW3.size
            have hA3 := (hA2.below hW3 (by have := hA2.lt; omega)).old (.cells (mixC 0 0 0 0) 73)
            have hB3 := (hB2.below hW3 (by have := hB2.lt; omega)).old (.cells (mixC 0 0 0 0) 73)
            have hC3 := (hC2.below hW3 (by have := hC2.lt; omega)).old (.cells (mixC 0 0 0 0) 73)
            have hWw : Below w.heap.size w w3 := hWW.trans (hW3.mono (by omega))
            have hW4 : Below w.heap.size w (w3.alloc (.cells (mixC 0 0 0 0) 73)) := hWw.alloc (by omega) _
            have hMx := MixAt.new w3 0 0 0 0
            have lC := hC2.lt
            clear hA2 hB2 hC2 hW3 hWW
            by_cases hb1 : b1 = 0
            · subst hb1
              have e1 : ((0 : Int) != 0) = false := rfl
              go_wp2_with (first | (refine store_mix rfl _ _ rfl rfl w3.heap.size n1 0 n2 b2 rfl rfl 0 0 0 0 hMx ?_; intro w4 hM4 hg4 hs4; have c1 := hM4.c1; have hA4 := hA3.grown hg4 (by first | (simp; done) | (simp; omega)); have hB4 := hB3.grown hg4 (by first | (simp; done) | (simp; omega))) | (refine load_nat rfl _ rfl w.heap.size rfl kc pc hA4 hpc ?_) | (refine load_nat rfl _ rfl (w.heap.size + 1) rfl jc qc hB4 hqc ?_))
              have hC4 := hC3.grown hg4 (by first | (simp; done) | (simp; omega))
              have hW5 : Below w.heap.size w w4 := hW4.grown hg4 (by simp; omega) (by intro k hk; cases hk; omega)
              have hs4' : w4.heap.size = w3.heap.size + 1 := by rw [hs4]; simp
              clear hA3 hB3 hC3 hW4 hWw hMx hg4 hs4 hM4 c1 HM HL
              refine (divide_any w4 HR.out.1 HR.out.2.1 h0 hkc).mono ?_
              rintro e w1 ⟨i, j', r, s, rfl, hR1, hR2, hW1⟩
              have hr := hR1.len
              have hs := hR2.len
              have hg0 : gk ≠ 0 := fun e => by have := HR.out.2.1.zero_iff.2 e; omega
              have hlt : a % gk < gk := Nat.mod_lt _ (by omega)
              have hjs := hR2.cnt_le HR.out.2.1 (by omega)
              have HR' : Hid (Rep gk jc qc ∧ Rep (a % gk) j' s ∧ Nat.gcd gk (a % gk) = Nat.gcd n m) := by
                refine ⟨HR.out.2.1, hR2, ?_⟩
                rw [← HR.out.2.2, Nat.gcd_comm a gk, Nat.gcd_rec gk a, Nat.gcd_comm]
              have hsr := hW5.size
              have hA1 := hA4.below hW1 (by omega)
              have hB1 := hB4.below hW1 (by omega)
              have hC1 := hC4.below hW1 (by omega)
              have hW1' : Below w.heap.size w w1 := hW5.trans (hW1.mono (by omega))
              have hs1 := hW1.size
              have F1 := (NatAt.new w1 0 zP).old (.cells (natC 0 zP) 32)
              have F2 := NatAt.new (w1.alloc (.cells (natC 0 zP) 32)) 0 zP
              simp only [World.size_alloc] at F2
              clear hR1 hR2 HR hA4 hB4 hC4 hW5 hW1 b0
              go_wp2_with (first | (refine store_nat rfl _ _ rfl rfl w1.heap.size i r rfl rfl 0 zP F1 zP_len hr ?_; intro w0 hN0 hg0' hs0) | (refine store_nat rfl _ _ rfl rfl (w1.heap.size + 1) j' s rfl rfl 0 zP (F2.grown hg0' (by first | (simp; done) | (simp; omega))) zP_len hs ?_; intro w2 hN2 hg2 hs2))
              have hs2' : w2.heap.size = w1.heap.size + 1 + 1 := by rw [hs2, hs0]; simp
              have hA2 := (((hA1.old (.cells (natC 0 zP) 32)).old (.cells (natC 0 zP) 32)).grown hg0' (by first | (simp; done) | (simp; omega))).grown hg2 (by first | (simp; done) | (simp; omega))
              have hB2 := (((hB1.old (.cells (natC 0 zP) 32)).old (.cells (natC 0 zP) 32)).grown hg0' (by first | (simp; done) | (simp; omega))).grown hg2 (by first | (simp; done) | (simp; omega))
              have hC2 := (((hC1.old (.cells (natC 0 zP) 32)).old (.cells (natC 0 zP) 32)).grown hg0' (by first | (simp; done) | (simp; omega))).grown hg2 (by first | (simp; done) | (simp; omega))
              have hW2 : Below w.heap.size w w2 := (((hW1'.alloc (by omega) _).alloc (by first | (simp; done) | (simp; omega)) _).grown hg0' (by first | (simp; done) | (simp; omega)) (by intro k hk; cases hk; omega)).grown hg2 (by rw [hs0]; simp; omega) (by intro k hk; cases hk; omega)
              clear hA1 hB1 hC1 hW1' F1 F2 hg2 hs2 hg0' hs0 hN0
              refine held_begin (fun w' => NatAt w' (w1.heap.size + 1) j' s) (by kernel_rfl) ?_
              have hS : NatAt w2.drew (w1.heap.size + 1) j' s := hN2
              refine held_load 1 (some 58) rfl rfl (by kernel_rfl) (by kernel_rfl) (by kernel_rfl) noPanic_put rfl _ rfl (w1.heap.size + 1) rfl j' s (fun _ h => h) hs hS ?_
              simp only [Act.put, List.setIfInBounds_toArray, List.set_cons_zero, List.set_cons_succ]
              refine held_load1 0 (some 57) (by kernel_rfl) rfl rfl rfl _ rfl (w.heap.size + 1) rfl jc qc hB2 hqc hS ?_
              simp only [Act.put, List.setIfInBounds_toArray, List.set_cons_zero, List.set_cons_succ]
              refine held_store 2 (by kernel_rfl) rfl rfl _ _ rfl rfl w.heap.size jc qc rfl rfl kc pc hA2 hpc hqc ?_
              intro w5 hN5 hg5 hs5
              have hN25 := hN2.grown (w := w2.drew) hg5 (by first | (simp; done) | (simp; omega))
              refine ⟨hN25, ?_⟩
              refine held_store 3 (by kernel_rfl) rfl rfl _ _ rfl rfl (w.heap.size + 1) j' s rfl rfl jc qc (hB2.grown (w := w2.drew) hg5 (by first | (simp; done) | (simp; omega))) hqc hs ?_
              intro w6 hN6 hg6 hs6
              refine ⟨hN25.grown hg6 (by first | (simp; done) | (simp; omega)), ?_⟩
              refine wpAnyH_done (by kernel_rfl) ?_ _
              refine NoPanic.normal ?_
              go_wp2
              have hB5 : Below w.heap.size w w5 := hW2.drew.grown hg5 (by have := hW2.size; simp; omega) (by intro k hk; cases hk; omega)
              go_roundg (a % gk)
              case measure => omega
              case rel =>
                exact ⟨gk, jc, j', qc, s, HR', by omega, by omega, hqc, hs, hN5.grown hg6 (by first | (simp; done) | (simp; omega)), hN6, (hC2.grown (w := w2.drew) hg5 (by first | (simp; done) | (simp; omega))).grown hg6 (by first | (simp; done) | (simp; omega)), hB5.grown hg6 (by have := hB5.size; omega) (by intro k hk; cases hk; omega)⟩
            · have e1 : (b1 != 0) = true := by simp [hb1]
              go_wp2_with (refine store_mix rfl _ _ rfl rfl w3.heap.size n1 b1 n2 b2 rfl rfl 0 0 0 0 hMx ?_; intro w4 hM4 hg4 hs4; have c1 := hM4.c1)
              have hA4 := hA3.grown hg4 (by first | (simp; done) | (simp; omega))
              have hB4 := hB3.grown hg4 (by first | (simp; done) | (simp; omega))
              have hC4 := hC3.grown hg4 (by first | (simp; done) | (simp; omega))
              have hW5 : Below w.heap.size w w4 := hW4.grown hg4 (by simp; omega) (by intro k hk; cases hk; omega)
              have hs4' : w4.heap.size = w3.heap.size + 1 := by rw [hs4]; simp
              obtain ⟨v1, hv1⟩ : ∃ v : Nat, n1 * (a : Int) + b1 * (gk : Int) = (v : Int) := ⟨(n1 * (a : Int) + b1 * (gk : Int)).toNat, by have := HL.out.1; omega⟩
              obtain ⟨v2, hv2⟩ : ∃ v : Nat, n2 * (a : Int) + b2 * (gk : Int) = (v : Int) := ⟨(n2 * (a : Int) + b2 * (gk : Int)).toNat, by have := HL.out.2; omega⟩
              have hst : v2 < v1 ∧ v1 ≤ gk := by
                rcases HM.out.st with h | h
                · exact absurd h.2.1 hb1
                · rw [hv1, hv2] at h; omega
              have hgc : Nat.gcd v1 v2 = Nat.gcd n m := by
                have h := HM.out.gc
                rw [hv1, hv2] at h
                rw [← HR.out.2.2]
                simpa [Int.gcd] using h
              clear hA3 hB3 hC3 hW4 hWw hMx hg4 hs4 c1 HL
              refine late_begin [14, 15] (fun w' => NatAt w' w.heap.size kc pc ∧ NatAt w' (w.heap.size + 1) jc qc ∧ MixAt w' w3.heap.size n1 b1 n2 b2) (by kernel_rfl) ?_
              have hS : NatAt w4.drew w.heap.size kc pc ∧ NatAt w4.drew (w.heap.size + 1) jc qc ∧ MixAt w4.drew w3.heap.size n1 b1 n2 b2 := ⟨hA4, hB4, hM4⟩
              refine late_val 0 (some 37) rfl rfl (by kernel_rfl) (by kernel_rfl) (by kernel_rfl) [6, 14, 15] (by kernel_rfl) noPanic_put rfl (.agg (natC kc pc)) (fun _ h => run_nat0 _ rfl w.heap.size rfl kc pc hpc h.1) hS ?_
              simp only [Act.put, List.setIfInBounds_toArray, List.set_cons_zero, List.set_cons_succ]
              refine late_val 1 (some 38) rfl rfl (by kernel_rfl) (by kernel_rfl) (by kernel_rfl) [2, 6, 14, 15] (by kernel_rfl) noPanic_put rfl (.pointer (some ⟨w3.heap.size, 0, none⟩)) (fun _ _ => by go_simp) hS ?_
              simp only [Act.put, List.setIfInBounds_toArray, List.set_cons_zero, List.set_cons_succ]
              refine late_val 2 (some 39) rfl rfl (by kernel_rfl) (by kernel_rfl) (by kernel_rfl) [6, 14, 15] (by kernel_rfl) noPanic_put rfl (.int .i64 n1) (fun _ h => by have c := h.2.2.c0; go_simp) hS ?_
              simp only [Act.put, List.setIfInBounds_toArray, List.set_cons_zero, List.set_cons_succ]
              refine late_val 3 (some 40) rfl rfl (by kernel_rfl) (by kernel_rfl) (by kernel_rfl) [6, 14, 15] (by kernel_rfl) noPanic_put rfl (.agg (natC jc qc)) (fun _ h => run_nat0 _ rfl (w.heap.size + 1) rfl jc qc hqc h.2.1) hS ?_
              simp only [Act.put, List.setIfInBounds_toArray, List.set_cons_zero, List.set_cons_succ]
              refine late_val 4 (some 41) rfl rfl (by kernel_rfl) (by kernel_rfl) (by kernel_rfl) [5, 6, 14, 15] (by kernel_rfl) noPanic_put rfl (.pointer (some ⟨w3.heap.size, 1, none⟩)) (fun _ _ => by go_simp) hS ?_
              simp only [Act.put, List.setIfInBounds_toArray, List.set_cons_zero, List.set_cons_succ]
              refine late_val 5 (some 42) rfl rfl (by kernel_rfl) (by kernel_rfl) (by kernel_rfl) [6, 14, 15] (by kernel_rfl) noPanic_put rfl (.int .i64 b1) (fun _ h => by have c := h.2.2.c1; go_simp) hS ?_
              simp only [Act.put, List.setIfInBounds_toArray, List.set_cons_zero, List.set_cons_succ]
              refine late_val 7 (some 44) rfl rfl (by kernel_rfl) (by kernel_rfl) (by kernel_rfl) [13, 14, 15] (by kernel_rfl) noPanic_put rfl (.agg (natC kc pc)) (fun _ h => run_nat0 _ rfl w.heap.size rfl kc pc hpc h.1) hS ?_
              simp only [Act.put, List.setIfInBounds_toArray, List.set_cons_zero, List.set_cons_succ]
              refine late_val 8 (some 45) rfl rfl (by kernel_rfl) (by kernel_rfl) (by kernel_rfl) [9, 13, 14, 15] (by kernel_rfl) noPanic_put rfl (.pointer (some ⟨w3.heap.size, 2, none⟩)) (fun _ _ => by go_simp) hS ?_
              simp only [Act.put, List.setIfInBounds_toArray, List.set_cons_zero, List.set_cons_succ]
              refine late_val 9 (some 46) rfl rfl (by kernel_rfl) (by kernel_rfl) (by kernel_rfl) [13, 14, 15] (by kernel_rfl) noPanic_put rfl (.int .i64 n2) (fun _ h => by have c := h.2.2.c2; go_simp) hS ?_
              simp only [Act.put, List.setIfInBounds_toArray, List.set_cons_zero, List.set_cons_succ]
              refine late_val 10 (some 47) rfl rfl (by kernel_rfl) (by kernel_rfl) (by kernel_rfl) [13, 14, 15] (by kernel_rfl) noPanic_put rfl (.agg (natC jc qc)) (fun _ h => run_nat0 _ rfl (w.heap.size + 1) rfl jc qc hqc h.2.1) hS ?_
              simp only [Act.put, List.setIfInBounds_toArray, List.set_cons_zero, List.set_cons_succ]
              refine late_val 11 (some 48) rfl rfl (by kernel_rfl) (by kernel_rfl) (by kernel_rfl) [12, 13, 14, 15] (by kernel_rfl) noPanic_put rfl (.pointer (some ⟨w3.heap.size, 3, none⟩)) (fun _ _ => by go_simp) hS ?_
              simp only [Act.put, List.setIfInBounds_toArray, List.set_cons_zero, List.set_cons_succ]
              refine late_val 12 (some 49) rfl rfl (by kernel_rfl) (by kernel_rfl) (by kernel_rfl) [13, 14, 15] (by kernel_rfl) noPanic_put rfl (.int .i64 b2) (fun _ h => by have c := h.2.2.c3; go_simp) hS ?_
              simp only [Act.put, List.setIfInBounds_toArray, List.set_cons_zero, List.set_cons_succ]
              refine late_call 6 (some 43) (by kernel_rfl) rfl rfl rfl 42 #[.agg (natC kc pc), .int .i64 n1, .agg (natC jc qc), .int .i64 b1] (by go_simp) _ (combined_any n1 b1 w4.drew v1 HR.out.1 HR.out.2.1 hkc hjc HM.out.bd.1 HM.out.bd.2.1 hv1) ?_
              rintro e w5 ⟨i, r, rfl, hR1, hW1⟩
              have hW1 : Below w4.heap.size w4 w5 := ⟨hW1.os, hW1.tape, hW1.output, hW1.size, hW1.block⟩
              have hs5 := hW1.size
              have hr := hR1.len
              have hS1 : NatAt w5 w.heap.size kc pc ∧ NatAt w5 (w.heap.size + 1) jc qc ∧ MixAt w5 w3.heap.size n1 b1 n2 b2 := ⟨hA4.below hW1 (by omega), hB4.below hW1 (by omega), hM4.below hW1 (by omega)⟩
              refine ⟨_, rfl, .inr hS1, ?_⟩
              simp only [Act.put, List.setIfInBounds_toArray, List.set_cons_zero, List.set_cons_succ]
              refine late_call 13 (some 50) (by kernel_rfl) rfl rfl rfl 42 #[.agg (natC kc pc), .int .i64 n2, .agg (natC jc qc), .int .i64 b2] (by go_simp) _ (combined_any n2 b2 w5 v2 HR.out.1 HR.out.2.1 hkc hjc HM.out.bd.2.2.1 HM.out.bd.2.2.2 hv2) ?_
              rintro e w6 ⟨j', s, rfl, hR2, hW2⟩
              have hs6 := hW2.size
              have hs := hR2.len
              have hS2 : NatAt w6 w.heap.size kc pc ∧ NatAt w6 (w.heap.size + 1) jc qc ∧ MixAt w6 w3.heap.size n1 b1 n2 b2 := ⟨hS1.1.below hW2 (by omega), hS1.2.1.below hW2 (by omega), hS1.2.2.below hW2 (by omega)⟩
              refine ⟨_, rfl, .inr hS2, ?_⟩
              simp only [Act.put, List.setIfInBounds_toArray, List.set_cons_zero, List.set_cons_succ]
              have hC6 := (hC4.below hW1 (by omega)).below hW2 (by omega)
              have hsr := hW5.size
              have hW6 : Below w.heap.size w w6 := (hW5.trans (hW1.mono (by omega))).trans (hW2.mono (by omega))
              refine late_store 14 (by kernel_rfl) rfl rfl _ _ rfl rfl w.heap.size i r rfl rfl kc pc hS2.1 hpc hr ?_
              intro w7 hN7 hg7 hs7
              refine ⟨.inl ⟨14, by simp, rfl⟩, ?_⟩
              refine late_store 15 (by kernel_rfl) rfl rfl _ _ rfl rfl (w.heap.size + 1) j' s rfl rfl jc qc (hS2.2.1.grown hg7 (by first | (simp; done) | (simp; omega))) hqc hs ?_
              intro w8 hN8 hg8 hs8
              refine ⟨.inl ⟨14, by simp, rfl⟩, ?_⟩
              refine late_done (by kernel_rfl) ?_ _
              refine NoPanic.normal ?_
              have hki := hR1.cnt_le HR.out.2.1 hst.2
              have hji := hR2.cnt_le HR.out.2.1 (by omega)
              have HR' : Hid (Rep v1 i r ∧ Rep v2 j' s ∧ Nat.gcd v1 v2 = Nat.gcd n m) := ⟨hR1, hR2, hgc⟩
              have hA8 := hN7.grown hg8 (by first | (simp; done) | (simp; omega))
              have hC8 := (hC6.grown hg7 (by first | (simp; done) | (simp; omega))).grown hg8 (by first | (simp; done) | (simp; omega))
              have hW8 : Below w.heap.size w w8 := (hW6.grown hg7 (by omega) (by intro k hk; cases hk; omega)).grown hg8 (by omega) (by intro k hk; cases hk; omega)
              clear hS hS1 hS2 hA4 hB4 hC4 hM4 hW1 hW2 hW5 hW6 hC6 hR1 hR2 HR HM b0 hg7 hg8 hN7
              go_wp2
              go_roundg v2
              case measure => omega
              case rel => exact ⟨v1, i, j', r, s, HR', by omega, by omega, hr, hs, hA8, hN8, hC8, hW8⟩
    · have hj0 : jc = 0 := by omega
      subst hj0
      have hE : Hid (Rep (Nat.gcd n m) kc pc) := by
        unfold Hid
        have hg := HR.out.2.1.zero_iff.1 rfl
        rw [← HR.out.2.2, hg, Nat.gcd_zero_right]
        exact HR.out.1
      clear HR
      go_wp2_with (first | (refine load_nat rfl _ rfl w.heap.size rfl kc pc hA hpc ?_) | (refine store_nat rfl _ _ rfl rfl (w.heap.size + 1 + 1) kc pc rfl rfl 0 zP hC zP_len hpc ?_; intro w3 hN3 hg3 hs3))
      refine bodyPost_ret (v := .agg (natC kc pc)) (res_nat Tryz.results18 _ _ (w.heap.size + 1 + 1) _ _ rfl hN3 hpc) rfl ⟨kc, pc, rfl, hE.out, ?_⟩
      exact hW.grown hg3 (by have := hW.size; omega) (by intro k hk; cases hk; omega)
end Go.Proofs.YtmfpnbmfcoahbaaGreatDoor

/-
  What isOne of impl's nats answers.
-/
namespace Go.Proofs.YtmfpnbmfcoahbaaGreatDoor
open Go.RowKit
set_option linter.unusedVariables false

theorem Rep.one_iff {n k : Nat} {p : List Int} (h : Rep n k p) : (k = 1 ∧ p.getD 0 0 = 1) ↔ n = 1 := by
  have hp := h.len
  constructor
  · rintro ⟨rfl, h1⟩
    have hv := h.val
    rw [vb_split 1000000 p 1 (by omega), vb_zero _ (p.drop 1) (fun i => by rw [getD_drop]; exact h.out _ (by omega))] at hv
    have : p.take 1 = [1] := by
      cases p with
      | nil => simp at hp
      | cons x p => simp at h1; simp [h1]
    rw [this] at hv; simp [vb] at hv; omega
  · rintro rfl
    have hk : k = 1 := by
      have h0 : k ≠ 0 := fun e => by have := h.zero_iff.1 e; omega
      by_cases e : k = 1
      · exact e
      · have h2 := h.ge (by omega)
        have h3 : (1000000 : Int) ^ 1 ≤ 1000000 ^ (k - 1) := ipow_le (by omega)
        simp at h3; omega
    subst hk
    refine ⟨rfl, ?_⟩
    have hv := h.val
    rw [vb_split 1000000 p 1 (by omega), vb_zero _ (p.drop 1) (fun i => by rw [getD_drop]; exact h.out _ (by omega))] at hv
    have : p.take 1 = [p.getD 0 0] := by
      cases p with
      | nil => simp at hp
      | cons x p => simp
    rw [this] at hv; simp [vb] at hv
    simpa using hv

set_option maxHeartbeats 400000 in
set_option maxRecDepth 100000 in
theorem isOne_any {n k : Nat} {p : List Int} (w : World) (hP : Rep n k p) :
    Calls Tryz.prog 70 #[.agg (natC k p)] w fun e w' => e = .returned (.bool (decide (n = 1))) ∧ Below w.heap.size w w' := by
  have hp := hP.len
  have A := NatAt.new w k p
  have hB : Below w.heap.size w (w.alloc (.cells (natC k p) 32)) := (Below.refl _ _).alloc (Nat.le_refl _) _
  have a0 := A.c0
  have a1 : (w.alloc (.cells (natC k p) 32)).cell? ⟨w.heap.size, 1, none⟩ = some (.int .i64 (p.getD 0 0)) := A.cs 0 (by omega)
  have hi := hP.one_iff
  obtain ⟨x, hx⟩ : ∃ x, x = p.getD 0 0 := ⟨_, rfl⟩
  rw [← hx] at a1 hi
  by_cases hk : k = 1
  · by_cases h1 : x = 1
    · rw [decide_eq_true (hi.1 ⟨hk, h1⟩)]
      have hk' : ((k : Int) == 1) = true := by simp [hk]
      subst h1
      clear hi hx hk
      go_enter Tryz.func70, Tryz.ntmps70
      go_wp2
      go_ret
      exact ⟨rfl, hB⟩
    · rw [decide_eq_false (fun e => h1 (hi.2 e).2)]
      have h1' : (x == 1) = false := by simpa using h1
      have hk' : ((k : Int) == 1) = true := by simp [hk]
      clear hi hx h1 hk
      go_enter Tryz.func70, Tryz.ntmps70
      go_wp2
      go_ret
      exact ⟨rfl, hB⟩
  · rw [decide_eq_false (fun e => hk (hi.2 e).1)]
    have hk' : ((k : Int) == 1) = false := by rw [beq_eq_false_iff_ne]; omega
    clear hi hx hk
    go_enter Tryz.func70, Tryz.ntmps70
    go_wp2
    go_ret
    exact ⟨rfl, hB⟩

end Go.Proofs.YtmfpnbmfcoahbaaGreatDoor
