/-
  What gcd of impl's nats and impl.GcdNat answer.
-/
import Derived.Test.YtmpghgaijphniaaGreatDoorDivideB
import Derived.Test.YtmpghgaijphniaaGreatDoorReads
namespace Go.Proofs.YtmpghgaijphniaaGreatDoor
open Go.RowKit
set_option linter.unusedVariables false

theorem Rep.zero_iff {n k : Nat} {p : List Int} (h : Rep n k p) : k = 0 ↔ n = 0 := by
  constructor
  · intro e
    have h1 := h.lt
    subst e
    simp at h1; omega
  · intro e
    subst e
    by_cases hk : k = 0
    · exact hk
    · have h1 := h.ge (by omega)
      have : (0 : Int) < 1000000 ^ (k - 1) := Int.pow_pos (by omega)
      omega

set_option maxHeartbeats 1000000 in
set_option maxRecDepth 100000 in
theorem gcd_any {n m k j : Nat} {p q : List Int} (w : World) (hP : Rep n k p) (hQ : Rep m j q) (hk : k ≤ 202) (hj : j ≤ 202) :
    Calls Tryz.prog 61 #[.agg (natC k p), .agg (natC j q)] w fun e w' => ∃ (i : Nat) (r : List Int), e = .returned (.agg (natC i r)) ∧ Rep (Nat.gcd n m) i r ∧ Below w.heap.size w w' := by
  have hz := zero_nat.1
  have hp := hP.len
  have hq := hQ.len
  have A := ((NatAt.new w k p).old (.cells (natC j q) 69)).old (.cells (natC 0 zP) 69)
  have B := (NatAt.new (w.alloc (.cells (natC k p) 69)) j q).old (.cells (natC 0 zP) 69)
  have C := NatAt.new ((w.alloc (.cells (natC k p) 69)).alloc (.cells (natC j q) 69)) 0 zP
  have hB : Below w.heap.size w (((w.alloc (.cells (natC k p) 69)).alloc (.cells (natC j q) 69)).alloc (.cells (natC 0 zP) 69)) := (((Below.refl _ _).alloc (Nat.le_refl _) _).alloc (by first | (simp; done) | (simp; omega)) _).alloc (by first | (simp; done) | (simp; omega)) _
  simp only [World.size_alloc] at B C
  have HP := hide hP
  have HQ := hide hQ
  clear hP hQ
  go_enter Tryz.func61, Tryz.ntmps61
  go_wp2
  go_loopg [] m (fun g wr => ∃ (a kc jc : Nat) (pc qc : List Int), Hid (Rep a kc pc ∧ Rep g jc qc ∧ Nat.gcd a g = Nat.gcd n m) ∧ kc ≤ 202 ∧ jc ≤ 202 ∧ pc.length = 204 ∧ qc.length = 204 ∧ NatAt wr w.heap.size kc pc ∧ NatAt wr (w.heap.size + 1) jc qc ∧ NatAt wr (w.heap.size + 1 + 1) 0 zP ∧ Below w.heap.size w wr)
  case atStart => exact ⟨n, k, j, p, q, ⟨HP.out, HQ.out, rfl⟩, hk, hj, hp, hq, A, B, C, hB⟩
  case round =>
    obtain ⟨a, kc, jc, pc, qc, HR, hkc, hjc, hpc, hqc, hA, hBq, hC, hW⟩ := hrel
    clear A B C hB
    have b0 := hBq.c0
    by_cases h0 : 0 < jc
    · have h0' : (0 : Int) < (jc : Int) := by omega
      go_wp2_with (first | (refine load_nat rfl _ rfl w.heap.size rfl kc pc hA hpc ?_) | (refine load_nat rfl _ rfl (w.heap.size + 1) rfl jc qc hBq hqc ?_))
      refine (divide_any wr HR.out.1 HR.out.2.1 h0 hkc).mono ?_
      rintro e w1 ⟨i, j', r, s, rfl, hR1, hR2, hW1⟩
      have hr := hR1.len
      have hs := hR2.len
      have hg0 : gk ≠ 0 := fun e => by have := HR.out.2.1.zero_iff.2 e; omega
      have hlt : a % gk < gk := Nat.mod_lt _ (by omega)
      have hjs := hR2.cnt_le HR.out.2.1 (by omega)
      have HR' : Hid (Rep gk jc qc ∧ Rep (a % gk) j' s ∧ Nat.gcd gk (a % gk) = Nat.gcd n m) := by
        refine ⟨HR.out.2.1, hR2, ?_⟩
        rw [← HR.out.2.2, Nat.gcd_comm a gk, Nat.gcd_rec gk a, Nat.gcd_comm]
      have hsr := hW.size
      have lC := hC.lt
      have hA1 := hA.below hW1 (by omega)
      have hB1 := hBq.below hW1 (by omega)
      have hC1 := hC.below hW1 (by omega)
      have hW1' : Below w.heap.size w w1 := hW.trans (hW1.mono (by omega))
      have hs1 := hW1.size
      have F1 := (NatAt.new w1 0 zP).old (.cells (natC 0 zP) 69)
      have F2 := NatAt.new (w1.alloc (.cells (natC 0 zP) 69)) 0 zP
      simp only [World.size_alloc] at F2
      clear hR1 hR2 HR hA hBq hC hW hW1 b0
      go_wp2_with (first | (refine store_nat rfl _ _ rfl rfl w1.heap.size i r rfl rfl 0 zP F1 zP_len hr ?_; intro w0 hN0 hg0' hs0) | (refine store_nat rfl _ _ rfl rfl (w1.heap.size + 1) j' s rfl rfl 0 zP (F2.grown hg0' (by first | (simp; done) | (simp; omega))) zP_len hs ?_; intro w2 hN2 hg2 hs2))
      have hs2' : w2.heap.size = w1.heap.size + 1 + 1 := by rw [hs2, hs0]; simp
      have hA2 := (((hA1.old (.cells (natC 0 zP) 69)).old (.cells (natC 0 zP) 69)).grown hg0' (by first | (simp; done) | (simp; omega))).grown hg2 (by first | (simp; done) | (simp; omega))
      have hB2 := (((hB1.old (.cells (natC 0 zP) 69)).old (.cells (natC 0 zP) 69)).grown hg0' (by first | (simp; done) | (simp; omega))).grown hg2 (by first | (simp; done) | (simp; omega))
      have hC2 := (((hC1.old (.cells (natC 0 zP) 69)).old (.cells (natC 0 zP) 69)).grown hg0' (by first | (simp; done) | (simp; omega))).grown hg2 (by first | (simp; done) | (simp; omega))
      have hW2 : Below w.heap.size w w2 := (((hW1'.alloc (by omega) _).alloc (by first | (simp; done) | (simp; omega)) _).grown hg0' (by first | (simp; done) | (simp; omega)) (by intro k hk; cases hk; omega)).grown hg2 (by rw [hs0]; simp; omega) (by intro k hk; cases hk; omega)
      clear hA1 hB1 hC1 hW1' F1 F2 hg2 hs2 hg0' hs0 hN0
      refine held_begin (fun w' => NatAt w' (w1.heap.size + 1) j' s) (by kernel_rfl) ?_
      have hS : NatAt w2.drew (w1.heap.size + 1) j' s := hN2
      refine held_load 1 (some 17) rfl rfl (by kernel_rfl) (by kernel_rfl) (by kernel_rfl) noPanic_put rfl _ rfl (w1.heap.size + 1) rfl j' s (fun _ h => h) hs hS ?_
      simp only [Act.put, List.setIfInBounds_toArray, List.set_cons_zero, List.set_cons_succ]
      refine held_load1 0 (some 16) (by kernel_rfl) rfl rfl rfl _ rfl (w.heap.size + 1) rfl jc qc hB2 hqc hS ?_
      simp only [Act.put, List.setIfInBounds_toArray, List.set_cons_zero, List.set_cons_succ]
      refine held_store 2 (by kernel_rfl) rfl rfl _ _ rfl rfl w.heap.size jc qc rfl rfl kc pc hA2 hpc hqc ?_
      intro w5 hN5 hg5 hs5
      have hN25 := hN2.grown (w := w2.drew) hg5 (by first | (simp; done) | (simp; omega))
      refine ⟨hN25, ?_⟩
      refine held_store 3 (by kernel_rfl) rfl rfl _ _ rfl rfl (w.heap.size + 1) j' s rfl rfl jc qc (hB2.grown (w := w2.drew) hg5 (by first | (simp; done) | (simp; omega))) hqc hs ?_
      intro w6 hN6 hg6 hs6
      refine ⟨hN25.grown hg6 (by first | (simp; done) | (simp; omega)), ?_⟩
      refine wpAnyH_done (by kernel_rfl) ?_ _
      refine NoPanic.normal ?_
      go_wp2
      have hB5 : Below w.heap.size w w5 := hW2.drew.grown hg5 (by have := hW2.size; simp; omega) (by intro k hk; cases hk; omega)
      go_roundg (a % gk)
      case measure => omega
      case rel =>
        exact ⟨gk, jc, j', qc, s, HR', by omega, by omega, hqc, hs, hN5.grown hg6 (by first | (simp; done) | (simp; omega)), hN6, (hC2.grown (w := w2.drew) hg5 (by first | (simp; done) | (simp; omega))).grown hg6 (by first | (simp; done) | (simp; omega)), hB5.grown hg6 (by have := hB5.size; omega) (by intro k hk; cases hk; omega)⟩
    · have hj0 : jc = 0 := by omega
      subst hj0
      have hE : Hid (Rep (Nat.gcd n m) kc pc) := by
        unfold Hid
        have hg := HR.out.2.1.zero_iff.1 rfl
        rw [← HR.out.2.2, hg, Nat.gcd_zero_right]
        exact HR.out.1
      clear HR
      go_wp2_with (first | (refine load_nat rfl _ rfl w.heap.size rfl kc pc hA hpc ?_) | (refine store_nat rfl _ _ rfl rfl (w.heap.size + 1 + 1) kc pc rfl rfl 0 zP hC zP_len hpc ?_; intro w3 hN3 hg3 hs3))
      refine bodyPost_ret (v := .agg (natC kc pc)) (res_nat Tryz.results61 _ _ (w.heap.size + 1 + 1) _ _ rfl hN3 hpc) rfl ⟨kc, pc, rfl, hE.out, ?_⟩
      exact hW.grown hg3 (by have := hW.size; omega) (by intro k hk; cases hk; omega)
end Go.Proofs.YtmpghgaijphniaaGreatDoor
