/-
  What modulo and powerModulo of impl's nats and impl.PowModNat answer.
-/
import Derived.Test.YtkcnadlencajaaaDoorReadAll
import Derived.Test.YtkcnadlencajaaaDoorFloat
import Derived.Test.YtkcnadlencajaaaDoorSpecPow
import Derived.Test.YtkcnadlencajaaaDoorPkDivideA
import Derived.Test.YtkcnadlencajaaaDoorPkMinus
import Derived.Test.YtkcnadlencajaaaDoorImplAdd
import Derived.Test.YtkcnadlencajaaaDoorPkImplDigits
import Derived.Test.YtkcnadlencajaaaDoorBaseLate
import Derived.Lib.OthersKept
namespace Go.Proofs.YtkcnadlencajaaaDoor
open Go.RowKit
set_option linter.unusedVariables false

set_option maxHeartbeats 1000000 in
set_option maxRecDepth 100000 in
theorem modulo_any {n m k j : Nat} {p q : List Int} (w : World) (hP : Rep n k p) (hQ : Rep m j q) (hm : m ≠ 0) (hk : k ≤ 202) :
    Calls Tryd.prog 103 #[.agg (natC k p), .agg (natC j q)] w fun e w' => ∃ (i : Nat) (r : List Int), e = .returned (.agg (natC i r)) ∧ Rep (n % m) i r ∧ Below w.heap.size w w' := by
  have hz := zero_nat.1
  have hp := hP.len
  have hq := hQ.len
  have hj0 : 0 < j := Nat.pos_of_ne_zero (fun h => hm (hQ.zero_iff.1 h))
  have A := ((NatAt.new w k p).old (.cells (natC j q) 57)).old (.cells (natC 0 zP) 57)
  have B := (NatAt.new (w.alloc (.cells (natC k p) 57)) j q).old (.cells (natC 0 zP) 57)
  have C := NatAt.new ((w.alloc (.cells (natC k p) 57)).alloc (.cells (natC j q) 57)) 0 zP
  have hB : Below w.heap.size w (((w.alloc (.cells (natC k p) 57)).alloc (.cells (natC j q) 57)).alloc (.cells (natC 0 zP) 57)) := (((Below.refl _ _).alloc (Nat.le_refl _) _).alloc (by first | (simp; done) | (simp; omega)) _).alloc (by first | (simp; done) | (simp; omega)) _
  simp only [World.size_alloc] at B C
  have HP := hide (And.intro hP hQ)
  clear hP hQ
  go_enter Tryd.func103, Tryd.ntmps103
  go_wp2_with (first | (refine load_nat rfl (.tmp 2) rfl w.heap.size rfl k p A hp ?_) | (refine load_nat rfl (.tmp 3) rfl (w.heap.size + 1) rfl j q B hq ?_))
  refine (divide_any _ HP.out.1 HP.out.2 hj0 hk).mono ?_
  rintro e w1 ⟨i, i2, r, s, rfl, hR0, hR, hW1⟩
  have hsl := hR.len
  have HR := hide hR
  have hs1 : w.heap.size + 1 + 1 + 1 ≤ w1.heap.size := by have := hW1.size; simpa using this
  have C1 : NatAt w1 (w.heap.size + 1 + 1) 0 zP := C.below hW1 (by simp)
  have hB1 : Below w.heap.size w w1 := hB.trans (hW1.mono (by simp; omega))
  have hrl := hR0.len
  have D1 := (NatAt.new w1 0 zP).old (.cells (natC 0 zP) 57)
  have E1 := NatAt.new (w1.alloc (.cells (natC 0 zP) 57)) 0 zP
  simp only [World.size_alloc] at E1
  clear A B C hB hW1 hR hR0
  go_wp2_with (first | (refine store_nat rfl (.tmp 5) _ rfl rfl w1.heap.size i r rfl rfl 0 zP D1 zP_len hrl ?_; intro w2 hN2 hg2 hs2) | (refine store_nat rfl (.tmp 6) _ rfl rfl (w1.heap.size + 1) i2 s rfl rfl 0 zP (E1.grown hg2 (by simp)) zP_len hsl ?_; intro w3 hN3 hg3 hs3) | (refine load_nat rfl (.tmp 6) rfl (w1.heap.size + 1) rfl i2 s hN3 hsl ?_) | (refine store_nat rfl (.tmp 4) _ rfl rfl (w.heap.size + 1 + 1) i2 s rfl rfl 0 zP ((((C1.old _).old _).grown hg2 (by simp; omega)).grown hg3 (by simp; omega)) zP_len hsl ?_; intro w4 hN4 hg4 hs4))
  have hB3 : Below w.heap.size w w3 := (((hB1.alloc hB1.size _).alloc (by simp; have := hB1.size; omega) _).grown hg2 (by simp; have := hB1.size; omega) (by intro k hk; cases hk; have := hB1.size; omega)).grown hg3 (by rw [hs2]; simp; have := hB1.size; omega) (by intro k hk; cases hk; have := hB1.size; omega)
  refine bodyPost_ret (v := .agg (natC i2 s)) (res_nat Tryd.results103 _ _ (w.heap.size + 1 + 1) _ _ rfl hN4 hsl) rfl ⟨i2, s, rfl, HR.out, hB3.grown hg4 (by have := hB3.size; omega) (by intro k hk; cases hk; omega)⟩

theorem ten_lt_ten (h T : Nat) (hT : h < T) : 10 ^ h < 10 ^ T := Nat.pow_lt_pow_right (by decide) hT
theorem iter_grown (w : World) (k : Nat) (s : ByteArray) (pos : Nat) : w.grownBy (w.iterAt k s pos) (some k) := ⟨rfl, rfl, rfl, by rw [Lib.iterAt_size]; exact Nat.le_refl _, fun j _ hne => Lib.iterAt_other w k j s pos (fun e => hne (by rw [e]))⟩

set_option maxHeartbeats 4000000 in
set_option maxRecDepth 100000 in
theorem powerModulo_any {A N M k j m : Nat} {p q r : List Int} (w : World) (hP : Rep A k p) (hQ : Rep N j q) (hR : Rep M m r) (hA : A < 10 ^ 600) (hN : N < 10 ^ 600) (hM : M < 10 ^ 100) (hM0 : M ≠ 0) (hT : Tab w.heap.size w) :
    Calls Tryd.prog 56 #[.agg (natC k p), .agg (natC j q), .agg (natC m r)] w fun e w' => ∃ (i : Nat) (s : List Int), e = .returned (.agg (natC i s)) ∧ Rep (A ^ N % M) i s ∧ Below w.heap.size w w' := by
  have hz := zero_nat.1
  have hp := hP.len
  have hq := hQ.len
  have hr := hR.len
  have hk := hP.small hA
  have hj := hQ.small hN
  have hM6 := Nat.lt_trans hM (ten_lt_ten 100 600 (by decide))
  have hsmall : ∀ x, x < M → ∀ (i : Nat) (s : List Int), Rep x i s → i ≤ 100 := fun x hx i s h => h.small (Nat.lt_trans hx hM6)
  have HSM := hide hsmall
  have hm := hR.small hM6
  have A0 := (((NatAt.new w k p).old (.cells (natC j q) 57)).old (.cells (natC m r) 57)).old (.cells (natC 0 zP) 57)
  have B0 := ((NatAt.new (w.alloc (.cells (natC k p) 57)) j q).old (.cells (natC m r) 57)).old (.cells (natC 0 zP) 57)
  have C0 := (NatAt.new ((w.alloc (.cells (natC k p) 57)).alloc (.cells (natC j q) 57)) m r).old (.cells (natC 0 zP) 57)
  have D0 := NatAt.new (((w.alloc (.cells (natC k p) 57)).alloc (.cells (natC j q) 57)).alloc (.cells (natC m r) 57)) 0 zP
  have hB : Below w.heap.size w ((((w.alloc (.cells (natC k p) 57)).alloc (.cells (natC j q) 57)).alloc (.cells (natC m r) 57)).alloc (.cells (natC 0 zP) 57)) := ((((Below.refl _ _).alloc (Nat.le_refl _) _).alloc (by first | (simp; done) | (simp; omega)) _).alloc (by first | (simp; done) | (simp; omega)) _).alloc (by first | (simp; done) | (simp; omega)) _
  have hW0s : ((((w.alloc (.cells (natC k p) 57)).alloc (.cells (natC j q) 57)).alloc (.cells (natC m r) 57)).alloc (.cells (natC 0 zP) 57)).heap.size = w.heap.size + 1 + 1 + 1 + 1 := by simp
  simp only [World.size_alloc] at B0 C0 D0
  have HP := hide (And.intro hP (And.intro hQ hR))
  have HM := hide hM0
  have HN := hide hN
  have HT := hide hT
  clear hP hQ hR hA hN hM hM0 hT hsmall hM6
  go_enter Tryd.func56, Tryd.ntmps56
  generalize hw0 : (((w.alloc (.cells (natC k p) 57)).alloc (.cells (natC j q) 57)).alloc (.cells (natC m r) 57)).alloc (.cells (natC 0 zP) 57) = w0 at A0 B0 C0 D0 hB hW0s
  go_wp2_with fail

  clear hw0
  refine float_begin (fun w' => NatAt w' (w.heap.size + 1 + 1) m r) 3 7 57 (natC 0 zP) (w.heap.size + 1 + 1 + 1 + 1) 4 (by kernel_rfl) rfl ?_
  have hS : NatAt w0.drew (w.heap.size + 1 + 1) m r := C0
  refine float_val 1 11 rfl rfl (by kernel_rfl) (by kernel_rfl) (by kernel_rfl) (by kernel_rfl) (by kernel_rfl) noPanic_put (fun _ => rfl) (by decide) (by decide) (.agg (natC m r)) (fun _ h => run_nat0 _ rfl (w.heap.size + 1 + 1) rfl m r hr h) (fun _ => fun _ h => run_nat0 _ rfl (w.heap.size + 1 + 1) rfl m r hr h) (fun _ h => hS.below h (by show _ < w0.heap.size; omega)) ?_
  simp only [Act.put, List.setIfInBounds_toArray, List.set_cons_zero, List.set_cons_succ]
  refine float_call 0 10 rfl rfl rfl rfl rfl (fun _ => rfl) (fun _ => rfl) (by kernel_rfl) (by kernel_rfl) (by decide) (by decide) hz (by show _ ≤ w0.heap.size; omega) 67 #[.int .i64 1] (fun _ => by go_simp) (fun _ _ => by go_simp) (fun _ h => hS.below h (by show _ < w0.heap.size; omega)) _ (fun w' _ => natOf_any 1 1 w' rfl (by omega) (by omega)) ?_
  rintro wx e w1 hWx ⟨i1, r1, rfl, hR1, hW1'⟩
  have hW1 : Below w0.heap.size w0 w1 := (⟨hWx.os, hWx.tape, hWx.output, hWx.size, hWx.block⟩ : Below w0.heap.size w0 wx).trans (hW1'.mono hWx.size)
  have hs1 := hW1.size
  have hi1 : i1 ≤ 100 := hR1.small (ten_lt_ten 0 600 (by decide))
  refine ⟨_, rfl, hW1', ?_⟩
  simp only [Act.put, List.setIfInBounds_toArray, List.set_cons_zero, List.set_cons_succ]
  refine float_call 2 12 rfl rfl rfl rfl rfl (fun _ => rfl) (fun _ => rfl) (by kernel_rfl) (by kernel_rfl) (by decide) (by decide) hz (by omega) 103 #[.agg (natC i1 r1), .agg (natC m r)] (fun _ => by go_simp) (fun _ _ => by go_simp) (fun _ h => (NatAt.below C0 hW1 (by omega)).below h (by omega)) _ (fun w' _ => modulo_any w' hR1 HP.out.2.2 HM.out (by omega)) ?_
  rintro wy e w2 hWy ⟨i2, r2, rfl, hR2, hW2'⟩
  have hW2 : Below w0.heap.size w0 w2 := hW1.trans ((hWy.trans (hW2'.mono hWy.size)).mono hs1)
  have hs2 := hW2.size
  have hr2 := hR2.len
  refine ⟨_, rfl, hW2', ?_⟩
  simp only [Act.put, List.setIfInBounds_toArray, List.set_cons_zero, List.set_cons_succ]
  refine float_end rfl rfl rfl (fun _ => rfl) (by kernel_rfl) hz (by omega) (fun _ h => (NatAt.below C0 hW2 (by omega)).below h (by omega)) ?_
  intro wp b7 hWp hRp hb7
  simp only [Act.put, List.setIfInBounds_toArray, List.set_cons_zero, List.set_cons_succ]
  have hVp : Below w0.heap.size w0 wp := hW2.trans (hWp.mono hs2)
  refine held_store 4 (by kernel_rfl) rfl rfl _ _ rfl rfl b7 i2 r2 rfl rfl 0 zP hRp zP_len hr2 ?_
  intro w3 hN3 hg3 hs3
  have hA3 : NatAt w3 w.heap.size k p := (A0.below hVp (by omega)).grown hg3 (by simp; omega)
  have hB3 : NatAt w3 (w.heap.size + 1) j q := (B0.below hVp (by omega)).grown hg3 (by simp; omega)
  have hC3 : NatAt w3 (w.heap.size + 1 + 1) m r := (C0.below hVp (by omega)).grown hg3 (by simp; omega)
  have hD3 : NatAt w3 (w.heap.size + 1 + 1 + 1) 0 zP := (D0.below hVp (by omega)).grown hg3 (by simp; omega)
  have hV3 : Below w.heap.size w w3 := (hB.trans (hVp.mono (by omega))).grown hg3 (by have := hVp.size; omega) (by intro k hk; cases hk; omega)
  refine ⟨hC3, ?_⟩
  refine wpAnyH_done (by kernel_rfl) ?_ _
  refine NoPanic.normal ?_
  have HO : Hid (Rep (1 % M) i2 r2) := hR2
  have hb3l := hN3.lt
  clear hS hWx hW1 hW1' hWy hW2 hW2' hWp hRp hVp hR1 hR2 hg3 hs3 hB A0 B0 C0 D0 hs1 hs2 hi1
  go_wp2_with (first | (refine load_nat rfl (.tmp 3) rfl w.heap.size rfl k p hA3 hp ?_) | (refine load_nat rfl (.tmp 5) rfl (w.heap.size + 1 + 1) rfl m r hC3 hr ?_))
  refine (modulo_any w3 HP.out.1 HP.out.2.2 HM.out (by omega)).mono ?_
  rintro e w4 ⟨i4, r4, rfl, hR4, hW4⟩
  have hr4 := hR4.len
  have HR4 := hide hR4
  have hs4 := hW4.size
  have hA4 := hA3.below hW4 (by omega)
  have hB4 := hB3.below hW4 (by omega)
  have hC4 := hC3.below hW4 (by omega)
  have hD4 := hD3.below hW4 (by omega)
  have hN4 := hN3.below hW4 (by omega)
  have hV4 : Below w.heap.size w w4 := hV3.trans (hW4.mono hV3.size)
  clear hA3 hB3 hC3 hD3 hN3 hV3 hW4 hR4
  go_wp2_with (first | (refine store_nat rfl (.tmp 3) _ rfl rfl w.heap.size i4 r4 rfl rfl k p hA4 hp hr4 ?_; intro w5 hN5 hg5 hs5) | (refine load_nat rfl (.tmp 4) rfl (w.heap.size + 1) rfl j q (hB4.grown hg5 (by simp)) hq ?_))
  have hC5 := hC4.grown hg5 (by simp; omega)
  have hD5 := hD4.grown hg5 (by simp; omega)
  have hO5 := hN4.grown hg5 (by simp; omega)
  have hV5 : Below w.heap.size w w5 := hV4.grown hg5 (by have := hV4.size; omega) (by intro k hk; cases hk; omega)
  clear hA4 hB4 hC4 hD4 hN4 hV4 hg5
  refine (digits_any 2 2 w5 HP.out.2.1 hj rfl (by omega) (by omega) ((HT.out.on hV5).up hV5.size)).mono ?_
  rintro e w6 ⟨bits, rfl, hin, hW6⟩
  have hbs : bits.size ≤ 2400 := hin.size_le (by omega) HN.out
  have HBT := hide hin.bit
  have hs6 := hW6.size
  have hA6 := (hN5.below hW6 (by omega)).old (.stringIter bits 0)
  have hC6 := (hC5.below hW6 (by omega)).old (.stringIter bits 0)
  have hD6 := (hD5.below hW6 (by omega)).old (.stringIter bits 0)
  have hO6 := (hO5.below hW6 (by omega)).old (.stringIter bits 0)
  have hV6 : Below w.heap.size w (w6.alloc (.stringIter bits 0)) := (hV5.trans (hW6.mono hV5.size)).alloc (by have := hV5.size; omega) _
  have hI6 : (w6.alloc (.stringIter bits 0)).heap[w6.heap.size]? = some (.stringIter bits 0) := heap_alloc_new _ _
  have hb7l : b7 < w6.heap.size := by omega
  have hkk : w.heap.size + 1 + 1 + 1 + 1 ≤ w6.heap.size := by omega
  clear hin hW6 hN5 hC5 hD5 hO5 hV5
  go_wp2_with fail
  have hi4 : i4 ≤ 100 := HSM.out _ (Nat.mod_lt _ (Nat.pos_of_ne_zero HM.out)) _ _ HR4.out
  go_loopg [] bits.size (fun g wr => ∃ (jj i : Nat) (s : List Int), g = bits.size - jj ∧ jj ≤ bits.size ∧ Hid (Rep (A ^ (N / 2 ^ (bits.size - jj)) % M) i s) ∧ i ≤ 100 ∧ s.length = 204 ∧ NatAt wr w.heap.size i4 r4 ∧ NatAt wr (w.heap.size + 1 + 1) m r ∧ NatAt wr (w.heap.size + 1 + 1 + 1) 0 zP ∧ NatAt wr b7 i s ∧ wr.heap[w6.heap.size]? = some (.stringIter bits jj) ∧ w6.heap.size < wr.heap.size ∧ Below w.heap.size w wr)
  case atStart =>
    refine ⟨0, i2, r2, rfl, Nat.zero_le _, ?_, ?_, hr2, hA6, hC6, hD6, hO6, hI6, ?_, hV6⟩
    · unfold Hid; rw [Nat.sub_zero, HBT.out.1, Nat.pow_zero]; exact HO.out
    · exact HSM.out _ (Nat.mod_lt _ (Nat.pos_of_ne_zero HM.out)) _ _ HO.out
    · show _ < (w6.alloc (.stringIter bits 0)).heap.size; simp
  case round =>
    obtain ⟨jj, i, s, hg, hjj, HI, hi, hsl, hA, hC, hD, hN, hI, hIl, hV⟩ := hrel
    clear hA6 hC6 hD6 hO6 hI6 hV6
    by_cases hlt : jj < bits.size
    · obtain ⟨v, hv⟩ : ∃ v, v = N / 2 ^ (bits.size - jj) := ⟨_, rfl⟩
      rw [← hv] at HI
      have HV : Hid (N / 2 ^ (bits.size - (jj + 1)) = 2 * v + N / 2 ^ (bits.size - (jj + 1)) % 2) := by
        have := bit_step N (bits.size - (jj + 1))
        rw [show bits.size - (jj + 1) + 1 = bits.size - jj by omega, ← hv] at this
        exact this
      have hb := HBT.out.2 jj hlt
      have ha : bits[jj].toNat < 128 := by rw [hb]; split <;> decide
      have hnx := fun ty => Lib.run_next_ascii_at (P := Tryd.prog) wr w6.heap.size bits jj ty hI hlt ha
      have hgi := iter_grown wr w6.heap.size bits (jj + 1)
      have hA1 := hA.grown hgi (by simp; omega)
      have hC1 := hC.grown hgi (by simp; omega)
      have hD1 := hD.grown hgi (by simp; omega)
      have hN1 := hN.grown hgi (by simp; omega)
      have hV1 : Below w.heap.size w (wr.iterAt w6.heap.size bits (jj + 1)) := hV.grown hgi (by have := hV.size; omega) (by intro k hk; cases hk; omega)
      have hI1 := Lib.iterAt_heap wr w6.heap.size bits jj (jj + 1) hI
      have hz1 : (wr.iterAt w6.heap.size bits (jj + 1)).heap.size = wr.heap.size := Lib.iterAt_size _ _ _ _
      obtain ⟨x, hx⟩ : ∃ x : Int, x = (bits[jj].toNat : Int) := ⟨_, rfl⟩
      rw [← hx] at hnx
      have HX := hide (And.intro hx hb)
      obtain ⟨wi, hwi⟩ : ∃ wi, wi = wr.iterAt w6.heap.size bits (jj + 1) := ⟨_, rfl⟩
      rw [← hwi] at hnx hA1 hC1 hD1 hN1 hV1 hI1 hz1
      clear hA hC hD hN hI hV hgi hv hb ha hx hwi
      go_wp2_with fail
      clear hnx
      refine late_begin [5] (fun w' => NatAt w' b7 i s ∧ NatAt w' w.heap.size i4 r4 ∧ NatAt w' (w.heap.size + 1 + 1) m r) (by kernel_rfl) ?_
      have hS : NatAt wi.drew b7 i s ∧ NatAt wi.drew w.heap.size i4 r4 ∧ NatAt wi.drew (w.heap.size + 1 + 1) m r := ⟨hN1, hA1, hC1⟩
      refine late_val 0 (some 22) rfl rfl (by kernel_rfl) (by kernel_rfl) (by kernel_rfl) [2, 4, 5] (by kernel_rfl) noPanic_put rfl (.agg (natC i s)) (fun _ h => run_nat0 _ rfl b7 rfl i s hsl h.1) hS ?_
      simp only [Act.put, List.setIfInBounds_toArray, List.set_cons_zero, List.set_cons_succ]
      refine late_val 1 (some 23) rfl rfl (by kernel_rfl) (by kernel_rfl) (by kernel_rfl) [2, 4, 5] (by kernel_rfl) noPanic_put rfl (.agg (natC i s)) (fun _ h => run_nat0 _ rfl (b7) rfl i s hsl h.1) hS ?_
      simp only [Act.put, List.setIfInBounds_toArray, List.set_cons_zero, List.set_cons_succ]
      refine late_val 3 (some 25) rfl rfl (by kernel_rfl) (by kernel_rfl) (by kernel_rfl) [4, 5] (by kernel_rfl) noPanic_put rfl (.agg (natC m r)) (fun _ h => run_nat0 _ rfl (w.heap.size + 1 + 1) rfl m r hr h.2.2) hS ?_
      simp only [Act.put, List.setIfInBounds_toArray, List.set_cons_zero, List.set_cons_succ]
      refine late_call 2 (some 24) (by kernel_rfl) rfl rfl rfl 44 #[.agg (natC i s), .agg (natC i s)] (by go_simp) _ (times_any wi.drew HI.out HI.out hi hi) ?_
      rintro e x1a ⟨ja, ra, rfl, hRa, hXa⟩
      have hsa : wi.heap.size ≤ x1a.heap.size := hXa.size
      have hSa : NatAt x1a b7 i s ∧ NatAt x1a w.heap.size i4 r4 ∧ NatAt x1a (w.heap.size + 1 + 1) m r := ⟨hS.1.below hXa (by show _ < wi.heap.size; omega), hS.2.1.below hXa (by show _ < wi.heap.size; omega), hS.2.2.below hXa (by show _ < wi.heap.size; omega)⟩
      have hja : ja ≤ 202 := Nat.le_trans (Rep.mul_used HI.out HI.out hRa) (by omega)
      refine ⟨_, rfl, .inr hSa, ?_⟩
      simp only [Act.put, List.setIfInBounds_toArray, List.set_cons_zero, List.set_cons_succ]
      refine late_call 4 (some 26) (by kernel_rfl) rfl rfl rfl 103 #[.agg (natC ja ra), .agg (natC m r)] (by go_simp) _ (modulo_any x1a hRa HP.out.2.2 HM.out hja) ?_
      rintro e x2a ⟨jba, rba, rfl, hRb, hXb⟩
      have hsb : x1a.heap.size ≤ x2a.heap.size := hXb.size
      have hSb : NatAt x2a b7 i s ∧ NatAt x2a w.heap.size i4 r4 ∧ NatAt x2a (w.heap.size + 1 + 1) m r := ⟨hSa.1.below hXb (by omega), hSa.2.1.below hXb (by omega), hSa.2.2.below hXb (by omega)⟩
      have hrba := hRb.len
      refine ⟨_, rfl, .inr hSb, ?_⟩
      simp only [Act.put, List.setIfInBounds_toArray, List.set_cons_zero, List.set_cons_succ]
      refine late_store 5 (by kernel_rfl) rfl rfl _ _ rfl rfl b7 jba rba rfl rfl i s hSb.1 hsl hrba ?_
      intro x3a hN hgN hsN
      refine ⟨.inl ⟨5, by simp, rfl⟩, ?_⟩
      refine late_done (by kernel_rfl) ?_ _
      refine NoPanic.normal ?_
      rw [pow_sq] at hRb
      have HR2 := hide hRb
      have hjb : jba ≤ 100 := HSM.out _ (Nat.mod_lt _ (Nat.pos_of_ne_zero HM.out)) _ _ hRb
      have hXX : Below wi.heap.size wi x2a := (⟨hXa.os, hXa.tape, hXa.output, hXa.size, hXa.block⟩ : Below wi.heap.size wi x1a).trans (hXb.mono hsa)
      have hA2 := hSb.2.1.grown hgN (by simp; omega)
      have hC2 := hSb.2.2.grown hgN (by simp; omega)
      have hD2 := (hD1.below hXX (by omega)).grown hgN (by simp; omega)
      have hI2 : x3a.heap[w6.heap.size]? = some (.stringIter bits (jj + 1)) := by rw [hgN.block _ (by omega) (by simp; omega), hXX.block _ (by omega)]; exact hI1
      have hV2 : Below w.heap.size w x3a := (hV1.trans (hXX.mono hV1.size)).grown hgN (by have := hV1.size; omega) (by intro k hk; cases hk; omega)
      have hz2 : wr.heap.size ≤ x3a.heap.size := by rw [hsN]; omega
      clear hS hSa hSb hXa hXb hXX hRa hRb hgN hA1 hC1 hD1 hN1 hV1 hI1
      by_cases h1 : N / 2 ^ (bits.size - (jj + 1)) % 2 = 1
      · have h49 : x = 49 := by rw [HX.out.1, HX.out.2, if_pos h1]; rfl
        have HE : Hid (N / 2 ^ (bits.size - (jj + 1)) = 2 * v + 1) := by unfold Hid; rw [HV.out, h1]
        clear h1 HV
        subst h49
        go_wp2_with fail
        refine late_begin [5] (fun w' => NatAt w' b7 jba rba ∧ NatAt w' w.heap.size i4 r4 ∧ NatAt w' (w.heap.size + 1 + 1) m r) (by kernel_rfl) ?_
        have hS : NatAt x3a.drew b7 jba rba ∧ NatAt x3a.drew w.heap.size i4 r4 ∧ NatAt x3a.drew (w.heap.size + 1 + 1) m r := ⟨hN, hA2, hC2⟩
        refine late_val 0 (some 29) rfl rfl (by kernel_rfl) (by kernel_rfl) (by kernel_rfl) [2, 4, 5] (by kernel_rfl) noPanic_put rfl (.agg (natC jba rba)) (fun _ h => run_nat0 _ rfl b7 rfl jba rba hrba h.1) hS ?_
        simp only [Act.put, List.setIfInBounds_toArray, List.set_cons_zero, List.set_cons_succ]
        refine late_val 1 (some 30) rfl rfl (by kernel_rfl) (by kernel_rfl) (by kernel_rfl) [2, 4, 5] (by kernel_rfl) noPanic_put rfl (.agg (natC i4 r4)) (fun _ h => run_nat0 _ rfl (w.heap.size) rfl i4 r4 hr4 h.2.1) hS ?_
        simp only [Act.put, List.setIfInBounds_toArray, List.set_cons_zero, List.set_cons_succ]
        refine late_val 3 (some 32) rfl rfl (by kernel_rfl) (by kernel_rfl) (by kernel_rfl) [4, 5] (by kernel_rfl) noPanic_put rfl (.agg (natC m r)) (fun _ h => run_nat0 _ rfl (w.heap.size + 1 + 1) rfl m r hr h.2.2) hS ?_
        simp only [Act.put, List.setIfInBounds_toArray, List.set_cons_zero, List.set_cons_succ]
        refine late_call 2 (some 31) (by kernel_rfl) rfl rfl rfl 44 #[.agg (natC jba rba), .agg (natC i4 r4)] (by go_simp) _ (times_any x3a.drew HR2.out HR4.out hjb (HSM.out _ (Nat.mod_lt _ (Nat.pos_of_ne_zero HM.out)) _ _ HR4.out)) ?_
        rintro e x1b ⟨ja, ra, rfl, hRa, hXa⟩
        have hsa : x3a.heap.size ≤ x1b.heap.size := hXa.size
        have hSa : NatAt x1b b7 jba rba ∧ NatAt x1b w.heap.size i4 r4 ∧ NatAt x1b (w.heap.size + 1 + 1) m r := ⟨hS.1.below hXa (by show _ < x3a.heap.size; omega), hS.2.1.below hXa (by show _ < x3a.heap.size; omega), hS.2.2.below hXa (by show _ < x3a.heap.size; omega)⟩
        have hja : ja ≤ 202 := Nat.le_trans (Rep.mul_used HR2.out HR4.out hRa) (by omega)
        refine ⟨_, rfl, .inr hSa, ?_⟩
        simp only [Act.put, List.setIfInBounds_toArray, List.set_cons_zero, List.set_cons_succ]
        refine late_call 4 (some 33) (by kernel_rfl) rfl rfl rfl 103 #[.agg (natC ja ra), .agg (natC m r)] (by go_simp) _ (modulo_any x1b hRa HP.out.2.2 HM.out hja) ?_
        rintro e x2b ⟨jbb, rbb, rfl, hRb, hXb⟩
        have hsb : x1b.heap.size ≤ x2b.heap.size := hXb.size
        have hSb : NatAt x2b b7 jba rba ∧ NatAt x2b w.heap.size i4 r4 ∧ NatAt x2b (w.heap.size + 1 + 1) m r := ⟨hSa.1.below hXb (by omega), hSa.2.1.below hXb (by omega), hSa.2.2.below hXb (by omega)⟩
        have hrbb := hRb.len
        refine ⟨_, rfl, .inr hSb, ?_⟩
        simp only [Act.put, List.setIfInBounds_toArray, List.set_cons_zero, List.set_cons_succ]
        refine late_store 5 (by kernel_rfl) rfl rfl _ _ rfl rfl b7 jbb rbb rfl rfl jba rba hSb.1 hrba hrbb ?_
        intro x3b hN hgN hsN
        refine ⟨.inl ⟨5, by simp, rfl⟩, ?_⟩
        refine late_done (by kernel_rfl) ?_ _
        refine NoPanic.normal ?_
        rw [pow_sq1] at hRb
        have HR3 := hide hRb
        have hjc : jbb ≤ 100 := HSM.out _ (Nat.mod_lt _ (Nat.pos_of_ne_zero HM.out)) _ _ hRb
        have hXX : Below x3a.heap.size x3a x2b := (⟨hXa.os, hXa.tape, hXa.output, hXa.size, hXa.block⟩ : Below x3a.heap.size x3a x1b).trans (hXb.mono hsa)
        have hA3 := hSb.2.1.grown hgN (by simp; omega)
        have hC3 := hSb.2.2.grown hgN (by simp; omega)
        have hD3 := (hD2.below hXX (by omega)).grown hgN (by simp; omega)
        have hI3 : x3b.heap[w6.heap.size]? = some (.stringIter bits (jj + 1)) := by rw [hgN.block _ (by omega) (by simp; omega), hXX.block _ (by omega)]; exact hI2
        have hV3 : Below w.heap.size w x3b := (hV2.trans (hXX.mono hV2.size)).grown hgN (by have := hV2.size; omega) (by intro k hk; cases hk; omega)
        go_wp2
        go_roundg (bits.size - (jj + 1))
        case measure => omega
        case rel => exact ⟨jj + 1, jbb, rbb, rfl, by omega, by unfold Hid; rw [HE.out]; exact HR3.out, hjc, hrbb, hA3, hC3, hD3, hN, hI3, by rw [hsN]; omega, hV3⟩
      · have h48 : x = 48 := by rw [HX.out.1, HX.out.2, if_neg h1]; rfl
        have HE : Hid (N / 2 ^ (bits.size - (jj + 1)) = 2 * v) := by unfold Hid; have := HV.out; omega
        clear h1 HV
        subst h48
        go_wp2
        go_roundg (bits.size - (jj + 1))
        case measure => omega
        case rel => exact ⟨jj + 1, jba, rba, rfl, by omega, by unfold Hid; rw [HE.out]; exact HR2.out, hjb, hrba, hA2, hC2, hD2, hN, hI2, by omega, hV2⟩
    · have hnx := fun ty => Lib.run_next_end_at (P := Tryd.prog) wr w6.heap.size bits jj ty hI hlt
      have HE : Hid (Rep (A ^ N % M) i s) := by
        have := HI.out
        rw [show bits.size - jj = 0 by omega, Nat.pow_zero, Nat.div_one] at this
        exact this
      go_wp2_with (first | (refine load_nat rfl (.tmp 7) rfl b7 rfl i s hN hsl ?_) | (refine store_nat rfl (.tmp 6) _ rfl rfl (w.heap.size + 1 + 1 + 1) i s rfl rfl 0 zP hD zP_len hsl ?_; intro wc hNc hgc hsc))
      refine bodyPost_ret (v := .agg (natC i s)) (res_nat Tryd.results56 _ _ (w.heap.size + 1 + 1 + 1) _ _ rfl hNc hsl) rfl ⟨i, s, rfl, HE.out, hV.grown hgc (by have := hV.size; omega) (by intro k hk; cases hk; omega)⟩

theorem ys_get {B : Nat} {w : World} {ys : List NatX} (h : RecAt w B 57 natXL ys) (i : Nat) (hi : i < ys.length) (k : Nat) (p : List Int) (hp : p.length = 204) (e : ys.getD i default = ((k : Int), (⟨p, hp⟩ : PartsX))) : w.rangeAt B (i * 205) ((((k : Int) :: p).map (Value.int .i64))) := by
  have := h.range natXL_len i hi
  rw [e] at this
  exact this
theorem run_natX {o : Oper} {a : Act} {w : World} (x : Operand) (ho : o.op = .load 57 x) (B i : Nat) (hx : a.eval x = .pointer (some ⟨B, i * 205, none⟩)) (ys : List NatX) (hD : RecAt w B 57 natXL ys) (hi : i < ys.length) (k : Nat) (p : List Int) (e : ∃ hp, ys.getD i default = ((k : Int), (⟨p, hp⟩ : PartsX))) :
    (execOp a.eval o).run Tryd.prog w = .ok (.value (.agg (natC k p))) w := by
  obtain ⟨hp, e⟩ := e
  have hr := ys_get hD i hi k p hp e
  have hl : (loadCells ⟨B, i * 205, none⟩ 205).run Tryd.prog w = .ok (natC k p) w := by
    have := run_loadCells_list (P := Tryd.prog) w ⟨B, i * 205, none⟩ (((k : Int) :: p).map (Value.int .i64)) (fun j v hv => by rw [Addr.add_mid]; exact hr j v hv)
    rw [show (((k : Int) :: p).map (Value.int .i64)).length = 205 by simp [hp]] at this
    exact this
  have hv : (loadVar 57 ⟨B, i * 205, none⟩).run Tryd.prog w = .ok (.agg (natC k p)) w := by
    have hs := zero_nat.2
    cases hq : Tryd.prog.info? 57 with
    | none => simp [hq] at hs
    | some ti =>
      have h5 : ti.size = 205 := by simpa [hq] using hs
      have hagg : (isAgg 57).run Tryd.prog w = .ok true w := by
        unfold isAgg
        rw [Sem.run_bind, run_underlying Tryd.underlying57 w]
        rfl
      simp only [loadVar, Sem.run_bind, hagg, Result.andThen_ok, if_true, sizeOf, typeInfo, Sem.run_pure]
      simp [hq, h5, hl]
  unfold execOp
  simp only [ho, hx, Instr.loadAt, Instr.sureAddr, Sem.run_bind, Sem.run_pure, Result.andThen_ok, hv]

theorem nats3 {a n m : ByteArray} {ys : List NatX} (h : AllNats [a, n, m] ys) : ys.length = 3 ∧ ∃ (k0 k1 k2 : Nat) (p0 p1 p2 : List Int), (∃ hp, ys.getD 0 default = ((k0 : Int), (⟨p0, hp⟩ : PartsX))) ∧ (∃ hp, ys.getD 1 default = ((k1 : Int), (⟨p1, hp⟩ : PartsX))) ∧ (∃ hp, ys.getD 2 default = ((k2 : Int), (⟨p2, hp⟩ : PartsX))) ∧ Rep (dval a.data.toList) k0 p0 ∧ Rep (dval n.data.toList) k1 p1 ∧ Rep (dval m.data.toList) k2 p2 := by
  obtain ⟨h0, h1⟩ := h
  obtain ⟨k0, e0, r0⟩ := h1 0 (by simp)
  obtain ⟨k1, e1, r1⟩ := h1 1 (by simp)
  obtain ⟨k2, e2, r2⟩ := h1 2 (by simp)
  exact ⟨h0, k0, k1, k2, _, _, _, ⟨(ys.getD 0 default).2.2, Prod.ext e0 rfl⟩, ⟨(ys.getD 1 default).2.2, Prod.ext e1 rfl⟩, ⟨(ys.getD 2 default).2.2, Prod.ext e2 rfl⟩, r0, r1, r2⟩

set_option maxHeartbeats 4000000 in
set_option maxRecDepth 100000 in
theorem implPowMod_any (a n m : ByteArray) (w : World) (hsa : a.size ≤ maxLen) (hsn : n.size ≤ maxLen) (hsm : m.size ≤ maxLen) (hT : Tab w.heap.size w) :
    Calls Tryd.prog 17 #[.string a, .string n, .string m] w fun e w' => PmAns a n m e ∧ Below w.heap.size w w' := by
  have hz := zero_nat.1
  have no : pmOk a n m = false → Hid (PmAns a n m (.returned (.tuple #[.string ⟨#[]⟩, .bool false]))) := fun h => .inr ⟨h, rfl⟩
  have HT := hide hT
  clear hT
  by_cases hl1 : (n.size : Int) ≤ 60
  · by_cases hl2 : (m.size : Int) ≤ 100
    · have hR : RecAt (w.alloc (.cells #[.string a, .string n, .string m] 9)) w.heap.size 9 stringL [a, n, m] := RowAt.new w 9 _
      have hB : Below w.heap.size w (w.alloc (.cells #[.string a, .string n, .string m] 9)) := (Below.refl _ _).alloc (Nat.le_refl _) _
      have HR := hide hR
      have HNO := hide no
      clear hR no
      go_enter Tryd.func17, Tryd.ntmps17
      go_wp2_with fail
      refine (readAll_any [a, n, m] w.heap.size 3 _ (by simp) (by simp) (fun i hi => by
        have : i = 0 ∨ i = 1 ∨ i = 2 := by simp at hi; omega
        rcases this with rfl | rfl | rfl
        · exact hsa
        · exact hsn
        · exact hsm) HR.out).mono ?_
      rintro e w1 (⟨hall, B, ys, rfl, hBs, hRec, hAN, hW1'⟩ | ⟨hall, rfl, hW1'⟩)
      · have hW1 : Below w.heap.size w w1 := hB.trans (hW1'.mono (by simp))
        obtain ⟨hyl, k0, k1, k2, p0, p1, p2, e0, e1, e2, r0, r1, r2⟩ := nats3 hAN
        simp only [List.all_cons, List.all_nil, Bool.and_true, Bool.and_eq_true] at hall
        obtain ⟨ga, gn, gm⟩ := hall
        have hcell : w1.cell? ⟨B, 410, none⟩ = some (.int .i64 (k2 : Int)) := by
          obtain ⟨hp2, e2'⟩ := e2
          have := ys_get hRec 2 (by omega) k2 p2 hp2 e2' 0 (.int .i64 (k2 : Int)) rfl
          exact this
        have hzi := r2.zero_iff
        have HREC := hide hRec
        have HW1 := hide hW1
        by_cases hk2 : k2 = 0
        · have HN := HNO.out (by unfold pmOk; rw [decide_eq_true (hzi.1 hk2)]; simp)
          have hzz : ((k2 : Int) == 0) = true := by simp [hk2]
          clear hAN r0 r1 r2 e0 e1 e2 hzi hk2 hRec hW1' hW1 ga gn gm
          go_wp2
          go_ret2
          exact ⟨HN.out, HW1.out⟩
        · have hm0 : dval m.data.toList ≠ 0 := fun h => hk2 (hzi.2 h)
          have hne : ((k2 : Int) == 0) = false := by simp; omega
          have HOK : Hid (pmOk a n m = true) := by
            unfold Hid pmOk
            rw [ga, gn, gm, decide_eq_false hm0, decide_eq_true (by omega), decide_eq_true (by omega)]; rfl
          have HT3 : Hid (Rep (dval a.data.toList) k0 p0 ∧ Rep (dval n.data.toList) k1 p1 ∧ Rep (dval m.data.toList) k2 p2 ∧ dval a.data.toList < 10 ^ 600 ∧ dval n.data.toList < 10 ^ 600 ∧ dval m.data.toList < 10 ^ 100 ∧ dval m.data.toList ≠ 0) :=
            ⟨r0, r1, r2, good_lt ga, good_lt gn, Tx.lt (k := 100) ⟨good_canon gm, rfl⟩ (by omega), hm0⟩
          clear hAN r0 r1 r2 hzi hk2 ga gn gm hm0 hW1' HNO
          go_wp2_with fail
          refine held_begin (fun w' => RecAt w' B 57 natXL ys) (by kernel_rfl) ?_
          have hS : RecAt w1.drew B 57 natXL ys := hRec
          refine held_val 0 (some 35) rfl rfl (by kernel_rfl) (by kernel_rfl) (by kernel_rfl) noPanic_put rfl (.slice (some ⟨B, 0, none⟩) 3 3) (fun _ => rfl) hS ?_
          simp only [Act.put, List.setIfInBounds_toArray, List.set_cons_zero, List.set_cons_succ]
          refine held_val 1 (some 36) rfl rfl (by kernel_rfl) (by kernel_rfl) (by kernel_rfl) noPanic_put rfl (.pointer (some ⟨B, 0, none⟩)) (fun _ => by go_simp) hS ?_
          simp only [Act.put, List.setIfInBounds_toArray, List.set_cons_zero, List.set_cons_succ]
          refine held_valS 2 (some 37) rfl rfl (by kernel_rfl) (by kernel_rfl) (by kernel_rfl) noPanic_put rfl (.agg (natC k0 p0)) (fun _ h => run_natX _ rfl B 0 rfl ys h (by omega) k0 p0 e0) hS ?_
          simp only [Act.put, List.setIfInBounds_toArray, List.set_cons_zero, List.set_cons_succ]
          refine held_val 3 (some 38) rfl rfl (by kernel_rfl) (by kernel_rfl) (by kernel_rfl) noPanic_put rfl (.slice (some ⟨B, 0, none⟩) 3 3) (fun _ => rfl) hS ?_
          simp only [Act.put, List.setIfInBounds_toArray, List.set_cons_zero, List.set_cons_succ]
          refine held_val 4 (some 39) rfl rfl (by kernel_rfl) (by kernel_rfl) (by kernel_rfl) noPanic_put rfl (.pointer (some ⟨B, 205, none⟩)) (fun _ => by go_simp) hS ?_
          simp only [Act.put, List.setIfInBounds_toArray, List.set_cons_zero, List.set_cons_succ]
          refine held_valS 5 (some 40) rfl rfl (by kernel_rfl) (by kernel_rfl) (by kernel_rfl) noPanic_put rfl (.agg (natC k1 p1)) (fun _ h => run_natX _ rfl B 1 rfl ys h (by omega) k1 p1 e1) hS ?_
          simp only [Act.put, List.setIfInBounds_toArray, List.set_cons_zero, List.set_cons_succ]
          refine held_val 6 (some 41) rfl rfl (by kernel_rfl) (by kernel_rfl) (by kernel_rfl) noPanic_put rfl (.slice (some ⟨B, 0, none⟩) 3 3) (fun _ => rfl) hS ?_
          simp only [Act.put, List.setIfInBounds_toArray, List.set_cons_zero, List.set_cons_succ]
          refine held_val 7 (some 42) rfl rfl (by kernel_rfl) (by kernel_rfl) (by kernel_rfl) noPanic_put rfl (.pointer (some ⟨B, 410, none⟩)) (fun _ => by go_simp) hS ?_
          simp only [Act.put, List.setIfInBounds_toArray, List.set_cons_zero, List.set_cons_succ]
          refine held_valS 8 (some 43) rfl rfl (by kernel_rfl) (by kernel_rfl) (by kernel_rfl) noPanic_put rfl (.agg (natC k2 p2)) (fun _ h => run_natX _ rfl B 2 rfl ys h (by omega) k2 p2 e2) hS ?_
          simp only [Act.put, List.setIfInBounds_toArray, List.set_cons_zero, List.set_cons_succ]
          refine held_call 9 (some 44) (by kernel_rfl) rfl rfl rfl 56 #[.agg (natC k0 p0), .agg (natC k1 p1), .agg (natC k2 p2)] (by go_simp) _ (powerModulo_any w1.drew HT3.out.1 HT3.out.2.1 HT3.out.2.2.1 HT3.out.2.2.2.1 HT3.out.2.2.2.2.1 HT3.out.2.2.2.2.2.1 HT3.out.2.2.2.2.2.2 ((HT.out.on hW1.drew).up hW1.size)) ?_
          rintro e w2 ⟨i, s, rfl, hR2, hW2⟩
          have hB2 : Below w.heap.size w w2 := hW1.drew.trans (hW2.mono hW1.size)
          have hS2 : RecAt w2 B 57 natXL ys := RecAt.below hS hW2 (RecAt.lt hS)
          refine ⟨_, rfl, hS2, ?_⟩
          simp only [Act.put, List.setIfInBounds_toArray, List.set_cons_zero, List.set_cons_succ]
          refine held_call 10 (some 45) (by kernel_rfl) rfl rfl rfl 52 #[.agg (natC i s)] (by go_simp) _ (text_any w2 hR2 ((HT.out.on hB2).up hB2.size)) ?_
          rintro e w3 ⟨y, rfl, hc, hv, hW3⟩
          have hB3 : Below w.heap.size w w3 := hB2.trans (hW3.mono hB2.size)
          have hS3 : RecAt w3 B 57 natXL ys := RecAt.below hS2 hW3 (RecAt.lt hS2)
          refine ⟨_, rfl, hS3, ?_⟩
          simp only [Act.put, List.setIfInBounds_toArray, List.set_cons_zero, List.set_cons_succ]
          refine held_assign 11 (some 6) (by kernel_rfl) rfl rfl _ rfl rfl _ rfl hS3 ?_
          simp only [Act.put, List.setIfInBounds_toArray, List.set_cons_zero, List.set_cons_succ]
          refine held_assign 12 (some 7) (by kernel_rfl) rfl rfl _ rfl rfl _ rfl hS3 ?_
          simp only [Act.put, List.setIfInBounds_toArray, List.set_cons_zero, List.set_cons_succ]
          refine wpAnyH_done (by kernel_rfl) ?_ _
          refine NoPanic.normal ?_
          have HA : Hid (PmAns a n m (.returned (.tuple #[.string y, .bool true]))) := .inl ⟨HOK.out, y, rfl, hc, hv⟩
          clear hc hv hS hS2 hS3 hR2 hW2 hW3
          go_wp2
          go_ret2
          exact ⟨HA.out, hB3⟩
      · have HN := HNO.out (by
          unfold pmOk
          simp only [List.all_cons, List.all_nil, Bool.and_true] at hall
          rw [show (goodB a.data.toList && (goodB n.data.toList && goodB m.data.toList)) = false from hall]; rfl)
        have hW1 : Below w.heap.size w w1 := hB.trans (hW1'.mono (by simp))
        clear hall hW1'
        go_wp2
        go_ret2
        exact ⟨HN.out, hW1⟩
    · have HN := no (by unfold pmOk; rw [decide_eq_false (show ¬ m.size ≤ 100 by omega), Bool.and_false])
      clear no
      go_enter Tryd.func17, Tryd.ntmps17
      go_wp2
      go_ret2
      exact ⟨HN.out, Below.refl _ _⟩
  · have HN := no (by unfold pmOk; rw [decide_eq_false (show ¬ n.size ≤ 60 by omega), Bool.and_false, Bool.false_and])
    clear no
    go_enter Tryd.func17, Tryd.ntmps17
    go_wp2
    go_ret2
    exact ⟨HN.out, Below.refl _ _⟩
end Go.Proofs.YtkcnadlencajaaaDoor
