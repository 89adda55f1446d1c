/-
  What gcd of impl's nats and impl.GcdNat answer.
-/
import Derived.Test.YtjgpjafndaikcaaDoorDivideB
import Derived.Test.YtjgpjafndaikcaaDoorReads
import Derived.Test.YtjgpjafndaikcaaDoorCombined
import Derived.Test.YtjgpjafndaikcaaDoorLate
import Derived.Test.YtjgpjafndaikcaaDoorNatOf
namespace Go.Proofs.YtjgpjafndaikcaaDoor
open Go.RowKit
set_option linter.unusedVariables false

theorem Rep.zero_iff {n k : Nat} {p : List Int} (h : Rep n k p) : k = 0 ↔ n = 0 := by
  constructor
  · intro e
    have h1 := h.lt
    subst e
    simp at h1; omega
  · intro e
    subst e
    by_cases hk : k = 0
    · exact hk
    · have h1 := h.ge (by omega)
      have : (0 : Int) < 1000000 ^ (k - 1) := Int.pow_pos (by omega)
      omega

/-- A nat is read whole, as an operation. -/
theorem run_nat0 {a : Act} {o : Oper} {w : World} (x : Operand) (ho : o.op = .load 35 x) (b : Nat) (hx : a.eval x = .pointer (some ⟨b, 0, none⟩)) (u : Int) (p : List Int) (hl : p.length = 204) (hN : NatAt w b u p) :
    (execOp a.eval o).run Tryd.prog w = .ok (.value (.agg (natC u p))) w := by
  unfold execOp
  simp only [ho, hx, Instr.loadAt, Instr.sureAddr, Sem.run_bind, Sem.run_pure, Result.andThen_ok, run_loadVar_row w b 35 35 (natC u p) (0, 0) _ hN Tryd.underlying35 rfl (nat_info u p hl)]

set_option maxHeartbeats 40000000 in
set_option maxRecDepth 100000 in
theorem gcd_any {n m k j : Nat} {p q : List Int} (w : World) (hP : Rep n k p) (hQ : Rep m j q) (hk : k ≤ 202) (hj : j ≤ 202) :
    Calls Tryd.prog 30 #[.agg (natC k p), .agg (natC j q)] w fun e w' => ∃ (i : Nat) (r : List Int), e = .returned (.agg (natC i r)) ∧ Rep (Nat.gcd n m) i r ∧ Below w.heap.size w w' := by
  have hz := zero_nat.1
  have hzm := zero_mix.1
  have hp := hP.len
  have hq := hQ.len
  have A := ((NatAt.new w k p).old (.cells (natC j q) 35)).old (.cells (natC 0 zP) 35)
  have B := (NatAt.new (w.alloc (.cells (natC k p) 35)) j q).old (.cells (natC 0 zP) 35)
  have C := NatAt.new ((w.alloc (.cells (natC k p) 35)).alloc (.cells (natC j q) 35)) 0 zP
  have hB : Below w.heap.size w (((w.alloc (.cells (natC k p) 35)).alloc (.cells (natC j q) 35)).alloc (.cells (natC 0 zP) 35)) := (((Below.refl _ _).alloc (Nat.le_refl _) _).alloc (by first | (simp; done) | (simp; omega)) _).alloc (by first | (simp; done) | (simp; omega)) _
  simp only [World.size_alloc] at B C
  have HP := hide hP
  have HQ := hide hQ
  clear hP hQ
  go_enter Tryd.func30, Tryd.ntmps30
  go_wp2
  go_loopg [] m (fun g wr => ∃ (a kc jc : Nat) (pc qc : List Int), Hid (Rep a kc pc ∧ Rep g jc qc ∧ Nat.gcd a g = Nat.gcd n m) ∧ kc ≤ 202 ∧ jc ≤ 202 ∧ pc.length = 204 ∧ qc.length = 204 ∧ NatAt wr w.heap.size kc pc ∧ NatAt wr (w.heap.size + 1) jc qc ∧ NatAt wr (w.heap.size + 1 + 1) 0 zP ∧ Below w.heap.size w wr)
  case atStart => exact ⟨n, k, j, p, q, ⟨HP.out, HQ.out, rfl⟩, hk, hj, hp, hq, A, B, C, hB⟩
  case round =>
    obtain ⟨a, kc, jc, pc, qc, HR, hkc, hjc, hpc, hqc, hA, hBq, hC, hW⟩ := hrel
    clear A B C hB
    have a0 := hA.c0
    have b0 := hBq.c0
    have hsr := hW.size
    have lC := hC.lt
    by_cases h0 : 0 < jc
    · have h0' : (0 : Int) < (jc : Int) := by omega
      rcases Int.lt_or_le (kc : Int) (jc : Int) with q1 | q1
      · rcases Int.lt_or_le (jc : Int) 3 with q2 | q2
        · obtain ⟨T, hT⟩ : ∃ T : Nat, 3 = T + 3 := ⟨3 - 3, by omega⟩
          have HT := hide hT
          clear hT
          go_wp2
          clear a0
          refine held_begin (fun w' => NatAt w' w.heap.size kc pc ∧ NatAt w' (w.heap.size + 1) jc qc) (by kernel_rfl) ?_
          have hS : NatAt wr.drew w.heap.size kc pc ∧ NatAt wr.drew (w.heap.size + 1) jc qc := ⟨hA, hBq⟩
          refine held_load 0 (some 19) rfl rfl (by kernel_rfl) (by kernel_rfl) (by kernel_rfl) noPanic_put rfl _ rfl w.heap.size rfl kc pc (fun _ h => h.1) hpc hS ?_
          simp only [Act.put, List.setIfInBounds_toArray, List.set_cons_zero, List.set_cons_succ]
          refine held_val 1 (some 20) rfl rfl (by kernel_rfl) (by kernel_rfl) (by kernel_rfl) noPanic_put rfl (.int .i64 (3 : Int)) (fun _ => by go_simp) hS ?_
          simp only [Act.put, List.setIfInBounds_toArray, List.set_cons_zero, List.set_cons_succ]
          refine held_load 3 (some 22) rfl rfl (by kernel_rfl) (by kernel_rfl) (by kernel_rfl) noPanic_put rfl _ rfl (w.heap.size + 1) rfl jc qc (fun _ h => h.2) hqc hS ?_
          simp only [Act.put, List.setIfInBounds_toArray, List.set_cons_zero, List.set_cons_succ]
          refine held_val 4 (some 23) rfl rfl (by kernel_rfl) (by kernel_rfl) (by kernel_rfl) noPanic_put rfl (.int .i64 (3 : Int)) (fun _ => by go_simp) hS ?_
          simp only [Act.put, List.setIfInBounds_toArray, List.set_cons_zero, List.set_cons_succ]
          refine held_call 2 (some 21) (by kernel_rfl) rfl rfl rfl 44 #[.agg (natC kc pc), .int .i64 (3 : Int)] (by go_simp) _ (lead_any (T) (3) wr.drew HR.out.1 HT.out (by omega)) ?_
          rintro e w1 ⟨rfl, hW1⟩
          have hW1 : Below wr.heap.size wr w1 := ⟨hW1.os, hW1.tape, hW1.output, hW1.size, hW1.block⟩
          have hS1 : NatAt w1 w.heap.size kc pc ∧ NatAt w1 (w.heap.size + 1) jc qc := ⟨hA.below hW1 (by omega), hBq.below hW1 (by omega)⟩
          refine ⟨_, rfl, hS1, ?_⟩
          simp only [Act.put, List.setIfInBounds_toArray, List.set_cons_zero, List.set_cons_succ]
          refine held_call 5 (some 24) (by kernel_rfl) rfl rfl rfl 44 #[.agg (natC jc qc), .int .i64 (3 : Int)] (by go_simp) _ (lead_any (T) (3) w1 HR.out.2.1 HT.out (by omega)) ?_
          rintro e w2 ⟨rfl, hW2⟩
          have hS2 : NatAt w2 w.heap.size kc pc ∧ NatAt w2 (w.heap.size + 1) jc qc := ⟨hS1.1.below hW2 (by have := hW1.size; omega), hS1.2.below hW2 (by have := hW1.size; omega)⟩
          refine ⟨_, rfl, hS2, ?_⟩
          simp only [Act.put, List.setIfInBounds_toArray, List.set_cons_zero, List.set_cons_succ]
          refine held_assign 6 (some 6) (by kernel_rfl) rfl rfl _ rfl rfl _ rfl hS2 ?_
          simp only [Act.put, List.setIfInBounds_toArray, List.set_cons_zero, List.set_cons_succ]
          refine held_assign 7 (some 7) (by kernel_rfl) rfl rfl _ rfl rfl _ rfl hS2 ?_
          simp only [Act.put, List.setIfInBounds_toArray, List.set_cons_zero, List.set_cons_succ]
          refine wpAnyH_done (by kernel_rfl) ?_ _
          refine NoPanic.normal ?_
          obtain ⟨hA2, hB2⟩ := hS2
          have hs2 : wr.heap.size ≤ w2.heap.size := Nat.le_trans hW1.size hW2.size
          have hC2 := (hC.below hW1 (by omega)).below hW2 (by have := hW1.size; omega)
          have hWW : Below w.heap.size w w2 := (hW.trans (hW1.mono (by omega))).trans (hW2.mono (by have := hW1.size; omega))
          have xb := lead_bd HR.out.1 (T + 2) (T + 1) (T)
          have yb := lead_bd HR.out.2.1 (T + 2) (T + 1) (T)
          obtain ⟨N', hN0, hN1, hNe⟩ := lead_split HR.out.1 (T) (by have := HT.out; omega) (by have := HT.out; omega)
          obtain ⟨B', hB0, hB1, hBe⟩ := lead_split HR.out.2.1 (T) (by have := HT.out; omega) (by have := HT.out; omega)
          generalize hX : (pc.getD (T + 2) 0 * 1000000 + pc.getD (T + 1) 0) * 1000000 + pc.getD (T) 0 = X at xb hNe ⊢
          generalize hY : (qc.getD (T + 2) 0 * 1000000 + qc.getD (T + 1) 0) * 1000000 + qc.getD (T) 0 = Y at yb hBe ⊢
          obtain ⟨x0, x1⟩ := xb
          obtain ⟨y0, y1⟩ := yb
          clear hX hY hS hS1 hA hBq hC hW hW1 hW2
          have HT0 : Hid (T = 0) := by have := HT.out; unfold Hid; omega
          have HN := hide (And.intro hNe hBe)
          have HN2 := hide (And.intro (And.intro hN0 hN1) (And.intro hB0 hB1))
          clear hNe hBe hN0 hN1 hB0 hB1
          go_wp2_with fail
          refine (gcdOf_any X Y w2 x0 x1 y0 y1).mono ?_
          rintro e w3 ⟨rfl, hW3⟩
          have hXn : X = (a : Int) := by
            have h1 := HN.out.1
            have h2 := HN2.out.1
            rw [HT0.out] at h1 h2
            simp only [Int.pow_zero] at h1 h2
            omega
          have hYn : Y = (gk : Int) := by
            have h1 := HN.out.2
            have h2 := HN2.out.2
            rw [HT0.out] at h1 h2
            simp only [Int.pow_zero] at h1 h2
            omega
          have hgc : Int.gcd X Y = Nat.gcd a gk := by rw [hXn, hYn]; simp [Int.gcd]
          have hgk : 0 < gk := by
            rcases Nat.eq_zero_or_pos gk with h | h
            · have := HR.out.2.1.zero_iff.2 h; omega
            · exact h
          have hgle : Nat.gcd a gk ≤ gk := Nat.gcd_le_right _ hgk
          rw [hgc]
          have HE : Hid (Nat.gcd a gk = Nat.gcd n m) := HR.out.2.2
          obtain ⟨G, hG⟩ : ∃ G : Int, G = ((Nat.gcd a gk : Nat) : Int) := ⟨_, rfl⟩
          have hG1 : G ≤ 999999999999999999 := by omega
          have hG0 : 0 ≤ G := by omega
          rw [← hG]
          have HG := hide hG
          clear hG hgle hXn hYn hgc hgk x0 x1 y0 y1
          go_wp2_with fail
          refine (natOf_big (Nat.gcd a gk) G w3 HG.out hG0 hG1).mono ?_
          rintro e w4 ⟨i, r, rfl, hR4, hW4⟩
          have hr := hR4.len
          have hC4 := (hC2.below hW3 (by omega)).below hW4 (by have := hW3.size; omega)
          have hW5 : Below w.heap.size w w4 := (hWW.trans (hW3.mono (by omega))).trans (hW4.mono (by have := hW3.size; omega))
          have HR4 : Hid (Rep (Nat.gcd n m) i r) := by unfold Hid; rw [← HE.out]; exact hR4
          clear hR4 hA2 hB2 hC2 hWW hW3 hW4 HR HE
          go_wp2_with (refine store_nat rfl _ _ rfl rfl (w.heap.size + 1 + 1) i r rfl rfl 0 zP hC4 zP_len hr ?_; intro w5 hN5 hg5 hs5)
          refine bodyPost_ret (v := .agg (natC i r)) (res_nat Tryd.results30 _ _ (w.heap.size + 1 + 1) _ _ rfl hN5 hr) rfl ⟨i, r, rfl, HR4.out, ?_⟩
          exact hW5.grown hg5 (by have := hW5.size; omega) (by intro k hk; cases hk; omega)
        · obtain ⟨T, hT⟩ : ∃ T : Nat, jc = T + 3 := ⟨jc - 3, by omega⟩
          have HT := hide hT
          clear hT
          go_wp2
          clear a0
          refine held_begin (fun w' => NatAt w' w.heap.size kc pc ∧ NatAt w' (w.heap.size + 1) jc qc) (by kernel_rfl) ?_
          have hS : NatAt wr.drew w.heap.size kc pc ∧ NatAt wr.drew (w.heap.size + 1) jc qc := ⟨hA, hBq⟩
          refine held_load 0 (some 19) rfl rfl (by kernel_rfl) (by kernel_rfl) (by kernel_rfl) noPanic_put rfl _ rfl w.heap.size rfl kc pc (fun _ h => h.1) hpc hS ?_
          simp only [Act.put, List.setIfInBounds_toArray, List.set_cons_zero, List.set_cons_succ]
          refine held_val 1 (some 20) rfl rfl (by kernel_rfl) (by kernel_rfl) (by kernel_rfl) noPanic_put rfl (.int .i64 (jc : Int)) (fun _ => by go_simp) hS ?_
          simp only [Act.put, List.setIfInBounds_toArray, List.set_cons_zero, List.set_cons_succ]
          refine held_load 3 (some 22) rfl rfl (by kernel_rfl) (by kernel_rfl) (by kernel_rfl) noPanic_put rfl _ rfl (w.heap.size + 1) rfl jc qc (fun _ h => h.2) hqc hS ?_
          simp only [Act.put, List.setIfInBounds_toArray, List.set_cons_zero, List.set_cons_succ]
          refine held_val 4 (some 23) rfl rfl (by kernel_rfl) (by kernel_rfl) (by kernel_rfl) noPanic_put rfl (.int .i64 (jc : Int)) (fun _ => by go_simp) hS ?_
          simp only [Act.put, List.setIfInBounds_toArray, List.set_cons_zero, List.set_cons_succ]
          refine held_call 2 (some 21) (by kernel_rfl) rfl rfl rfl 44 #[.agg (natC kc pc), .int .i64 (jc : Int)] (by go_simp) _ (lead_any (T) (jc) wr.drew HR.out.1 HT.out (by omega)) ?_
          rintro e w1 ⟨rfl, hW1⟩
          have hW1 : Below wr.heap.size wr w1 := ⟨hW1.os, hW1.tape, hW1.output, hW1.size, hW1.block⟩
          have hS1 : NatAt w1 w.heap.size kc pc ∧ NatAt w1 (w.heap.size + 1) jc qc := ⟨hA.below hW1 (by omega), hBq.below hW1 (by omega)⟩
          refine ⟨_, rfl, hS1, ?_⟩
          simp only [Act.put, List.setIfInBounds_toArray, List.set_cons_zero, List.set_cons_succ]
          refine held_call 5 (some 24) (by kernel_rfl) rfl rfl rfl 44 #[.agg (natC jc qc), .int .i64 (jc : Int)] (by go_simp) _ (lead_any (T) (jc) w1 HR.out.2.1 HT.out (by omega)) ?_
          rintro e w2 ⟨rfl, hW2⟩
          have hS2 : NatAt w2 w.heap.size kc pc ∧ NatAt w2 (w.heap.size + 1) jc qc := ⟨hS1.1.below hW2 (by have := hW1.size; omega), hS1.2.below hW2 (by have := hW1.size; omega)⟩
          refine ⟨_, rfl, hS2, ?_⟩
          simp only [Act.put, List.setIfInBounds_toArray, List.set_cons_zero, List.set_cons_succ]
          refine held_assign 6 (some 6) (by kernel_rfl) rfl rfl _ rfl rfl _ rfl hS2 ?_
          simp only [Act.put, List.setIfInBounds_toArray, List.set_cons_zero, List.set_cons_succ]
          refine held_assign 7 (some 7) (by kernel_rfl) rfl rfl _ rfl rfl _ rfl hS2 ?_
          simp only [Act.put, List.setIfInBounds_toArray, List.set_cons_zero, List.set_cons_succ]
          refine wpAnyH_done (by kernel_rfl) ?_ _
          refine NoPanic.normal ?_
          obtain ⟨hA2, hB2⟩ := hS2
          have hs2 : wr.heap.size ≤ w2.heap.size := Nat.le_trans hW1.size hW2.size
          have hC2 := (hC.below hW1 (by omega)).below hW2 (by have := hW1.size; omega)
          have hWW : Below w.heap.size w w2 := (hW.trans (hW1.mono (by omega))).trans (hW2.mono (by have := hW1.size; omega))
          have xb := lead_bd HR.out.1 (T + 2) (T + 1) (T)
          have yb := lead_bd HR.out.2.1 (T + 2) (T + 1) (T)
          obtain ⟨N', hN0, hN1, hNe⟩ := lead_split HR.out.1 (T) (by have := HT.out; omega) (by have := HT.out; omega)
          obtain ⟨B', hB0, hB1, hBe⟩ := lead_split HR.out.2.1 (T) (by have := HT.out; omega) (by have := HT.out; omega)
          generalize hX : (pc.getD (T + 2) 0 * 1000000 + pc.getD (T + 1) 0) * 1000000 + pc.getD (T) 0 = X at xb hNe ⊢
          generalize hY : (qc.getD (T + 2) 0 * 1000000 + qc.getD (T + 1) 0) * 1000000 + qc.getD (T) 0 = Y at yb hBe ⊢
          obtain ⟨x0, x1⟩ := xb
          obtain ⟨y0, y1⟩ := yb
          clear hX hY hS hS1 hA hBq hC hW hW1 hW2
          by_cases h3 : (jc : Int) = 3
          · have HT0 : Hid (T = 0) := by have := HT.out; unfold Hid; omega
            have e0 : ((jc : Int) == 3) = true := by simp [h3]
            clear h3
            have HN := hide (And.intro hNe hBe)
            have HN2 := hide (And.intro (And.intro hN0 hN1) (And.intro hB0 hB1))
            clear hNe hBe hN0 hN1 hB0 hB1
            go_wp2_with fail
            refine (gcdOf_any X Y w2 x0 x1 y0 y1).mono ?_
            rintro e w3 ⟨rfl, hW3⟩
            have hXn : X = (a : Int) := by
              have h1 := HN.out.1
              have h2 := HN2.out.1
              rw [HT0.out] at h1 h2
              simp only [Int.pow_zero] at h1 h2
              omega
            have hYn : Y = (gk : Int) := by
              have h1 := HN.out.2
              have h2 := HN2.out.2
              rw [HT0.out] at h1 h2
              simp only [Int.pow_zero] at h1 h2
              omega
            have hgc : Int.gcd X Y = Nat.gcd a gk := by rw [hXn, hYn]; simp [Int.gcd]
            have hgk : 0 < gk := by
              rcases Nat.eq_zero_or_pos gk with h | h
              · have := HR.out.2.1.zero_iff.2 h; omega
              · exact h
            have hgle : Nat.gcd a gk ≤ gk := Nat.gcd_le_right _ hgk
            rw [hgc]
            have HE : Hid (Nat.gcd a gk = Nat.gcd n m) := HR.out.2.2
            obtain ⟨G, hG⟩ : ∃ G : Int, G = ((Nat.gcd a gk : Nat) : Int) := ⟨_, rfl⟩
            have hG1 : G ≤ 999999999999999999 := by omega
            have hG0 : 0 ≤ G := by omega
            rw [← hG]
            have HG := hide hG
            clear hG hgle hXn hYn hgc hgk x0 x1 y0 y1
            go_wp2_with fail
            refine (natOf_big (Nat.gcd a gk) G w3 HG.out hG0 hG1).mono ?_
            rintro e w4 ⟨i, r, rfl, hR4, hW4⟩
            have hr := hR4.len
            have hC4 := (hC2.below hW3 (by omega)).below hW4 (by have := hW3.size; omega)
            have hW5 : Below w.heap.size w w4 := (hWW.trans (hW3.mono (by omega))).trans (hW4.mono (by have := hW3.size; omega))
            have HR4 : Hid (Rep (Nat.gcd n m) i r) := by unfold Hid; rw [← HE.out]; exact hR4
            clear hR4 hA2 hB2 hC2 hWW hW3 hW4 HR HE
            go_wp2_with (refine store_nat rfl _ _ rfl rfl (w.heap.size + 1 + 1) i r rfl rfl 0 zP hC4 zP_len hr ?_; intro w5 hN5 hg5 hs5)
            refine bodyPost_ret (v := .agg (natC i r)) (res_nat Tryd.results30 _ _ (w.heap.size + 1 + 1) _ _ rfl hN5 hr) rfl ⟨i, r, rfl, HR4.out, ?_⟩
            exact hW5.grown hg5 (by have := hW5.size; omega) (by intro k hk; cases hk; omega)
          · have e0 : ((jc : Int) == 3) = false := by simp [h3]
            clear h3
            go_wp2_with fail
            refine (sureSteps_any X Y (1000000 ^ (T)) N' B' w2 x0 x1 y0 y1 hN0 hN1 hB0 hB1).mono ?_
            rintro e w3 ⟨x, y, n1, b1, n2, b2, rfl, hM, hW3⟩
            rw [← hNe, ← hBe] at hM
            have hl1 := mix_low (S := 1000000 ^ (T)) hM.hx hM.a1 hM.a2 (by rcases hM.sg with s | s <;> omega) hN0 hN1 hB0 hB1
            have hl2 := mix_low (S := 1000000 ^ (T)) hM.hy hM.c1 hM.c2 (by rcases hM.sg with s | s <;> omega) hN0 hN1 hB0 hB1
            rw [← hNe, ← hBe] at hl1 hl2
            have HM := hide hM
            have HL := hide (And.intro hl1 hl2)
            clear hM hl1 hl2 hNe hBe hN0 hN1 hB0 hB1 x0 x1 y0 y1
            have hs3 := hW3.size
            have hA3 := (hA2.below hW3 (by have := hA2.lt; omega)).old (.cells (mixC 0 0 0 0) 68)
            have hB3 := (hB2.below hW3 (by have := hB2.lt; omega)).old (.cells (mixC 0 0 0 0) 68)
            have hC3 := (hC2.below hW3 (by have := hC2.lt; omega)).old (.cells (mixC 0 0 0 0) 68)
            have hWw : Below w.heap.size w w3 := hWW.trans (hW3.mono (by omega))
            have hW4 : Below w.heap.size w (w3.alloc (.cells (mixC 0 0 0 0) 68)) := hWw.alloc (by omega) _
            have hMx := MixAt.new w3 0 0 0 0
            have lC := hC2.lt
            clear hA2 hB2 hC2 hW3 hWW
            by_cases hb1 : b1 = 0
            · subst hb1
              have e1 : ((0 : Int) != 0) = false := rfl
              go_wp2_with (first | (refine store_mix rfl _ _ rfl rfl w3.heap.size n1 0 n2 b2 rfl rfl 0 0 0 0 hMx ?_; intro w4 hM4 hg4 hs4; have c1 := hM4.c1; have hA4 := hA3.grown hg4 (by first | (simp; done) | (simp; omega)); have hB4 := hB3.grown hg4 (by first | (simp; done) | (simp; omega))) | (refine load_nat rfl _ rfl w.heap.size rfl kc pc hA4 hpc ?_) | (refine load_nat rfl _ rfl (w.heap.size + 1) rfl jc qc hB4 hqc ?_))
              have hC4 := hC3.grown hg4 (by first | (simp; done) | (simp; omega))
              have hW5 : Below w.heap.size w w4 := hW4.grown hg4 (by simp; omega) (by intro k hk; cases hk; omega)
              have hs4' : w4.heap.size = w3.heap.size + 1 := by rw [hs4]; simp
              clear hA3 hB3 hC3 hW4 hWw hMx hg4 hs4 hM4 c1 HM HL
              refine (divide_any w4 HR.out.1 HR.out.2.1 h0 hkc).mono ?_
              rintro e w1 ⟨i, j', r, s, rfl, hR1, hR2, hW1⟩
              have hr := hR1.len
              have hs := hR2.len
              have hg0 : gk ≠ 0 := fun e => by have := HR.out.2.1.zero_iff.2 e; omega
              have hlt : a % gk < gk := Nat.mod_lt _ (by omega)
              have hjs := hR2.cnt_le HR.out.2.1 (by omega)
              have HR' : Hid (Rep gk jc qc ∧ Rep (a % gk) j' s ∧ Nat.gcd gk (a % gk) = Nat.gcd n m) := by
                refine ⟨HR.out.2.1, hR2, ?_⟩
                rw [← HR.out.2.2, Nat.gcd_comm a gk, Nat.gcd_rec gk a, Nat.gcd_comm]
              have hsr := hW5.size
              have hA1 := hA4.below hW1 (by omega)
              have hB1 := hB4.below hW1 (by omega)
              have hC1 := hC4.below hW1 (by omega)
              have hW1' : Below w.heap.size w w1 := hW5.trans (hW1.mono (by omega))
              have hs1 := hW1.size
              have F1 := (NatAt.new w1 0 zP).old (.cells (natC 0 zP) 35)
              have F2 := NatAt.new (w1.alloc (.cells (natC 0 zP) 35)) 0 zP
              simp only [World.size_alloc] at F2
              clear hR1 hR2 HR hA4 hB4 hC4 hW5 hW1 b0
              go_wp2_with (first | (refine store_nat rfl _ _ rfl rfl w1.heap.size i r rfl rfl 0 zP F1 zP_len hr ?_; intro w0 hN0 hg0' hs0) | (refine store_nat rfl _ _ rfl rfl (w1.heap.size + 1) j' s rfl rfl 0 zP (F2.grown hg0' (by first | (simp; done) | (simp; omega))) zP_len hs ?_; intro w2 hN2 hg2 hs2))
              have hs2' : w2.heap.size = w1.heap.size + 1 + 1 := by rw [hs2, hs0]; simp
              have hA2 := (((hA1.old (.cells (natC 0 zP) 35)).old (.cells (natC 0 zP) 35)).grown hg0' (by first | (simp; done) | (simp; omega))).grown hg2 (by first | (simp; done) | (simp; omega))
              have hB2 := (((hB1.old (.cells (natC 0 zP) 35)).old (.cells (natC 0 zP) 35)).grown hg0' (by first | (simp; done) | (simp; omega))).grown hg2 (by first | (simp; done) | (simp; omega))
              have hC2 := (((hC1.old (.cells (natC 0 zP) 35)).old (.cells (natC 0 zP) 35)).grown hg0' (by first | (simp; done) | (simp; omega))).grown hg2 (by first | (simp; done) | (simp; omega))
              have hW2 : Below w.heap.size w w2 := (((hW1'.alloc (by omega) _).alloc (by first | (simp; done) | (simp; omega)) _).grown hg0' (by first | (simp; done) | (simp; omega)) (by intro k hk; cases hk; omega)).grown hg2 (by rw [hs0]; simp; omega) (by intro k hk; cases hk; omega)
              clear hA1 hB1 hC1 hW1' F1 F2 hg2 hs2 hg0' hs0 hN0
              refine held_begin (fun w' => NatAt w' (w1.heap.size + 1) j' s) (by kernel_rfl) ?_
              have hS : NatAt w2.drew (w1.heap.size + 1) j' s := hN2
              refine held_load 1 (some 58) rfl rfl (by kernel_rfl) (by kernel_rfl) (by kernel_rfl) noPanic_put rfl _ rfl (w1.heap.size + 1) rfl j' s (fun _ h => h) hs hS ?_
              simp only [Act.put, List.setIfInBounds_toArray, List.set_cons_zero, List.set_cons_succ]
              refine held_load1 0 (some 57) (by kernel_rfl) rfl rfl rfl _ rfl (w.heap.size + 1) rfl jc qc hB2 hqc hS ?_
              simp only [Act.put, List.setIfInBounds_toArray, List.set_cons_zero, List.set_cons_succ]
              refine held_store 2 (by kernel_rfl) rfl rfl _ _ rfl rfl w.heap.size jc qc rfl rfl kc pc hA2 hpc hqc ?_
              intro w5 hN5 hg5 hs5
              have hN25 := hN2.grown (w := w2.drew) hg5 (by first | (simp; done) | (simp; omega))
              refine ⟨hN25, ?_⟩
              refine held_store 3 (by kernel_rfl) rfl rfl _ _ rfl rfl (w.heap.size + 1) j' s rfl rfl jc qc (hB2.grown (w := w2.drew) hg5 (by first | (simp; done) | (simp; omega))) hqc hs ?_
              intro w6 hN6 hg6 hs6
              refine ⟨hN25.grown hg6 (by first | (simp; done) | (simp; omega)), ?_⟩
              refine wpAnyH_done (by kernel_rfl) ?_ _
              refine NoPanic.normal ?_
              go_wp2
              have hB5 : Below w.heap.size w w5 := hW2.drew.grown hg5 (by have := hW2.size; simp; omega) (by intro k hk; cases hk; omega)
              go_roundg (a % gk)
              case measure => omega
              case rel =>
                exact ⟨gk, jc, j', qc, s, HR', by omega, by omega, hqc, hs, hN5.grown hg6 (by first | (simp; done) | (simp; omega)), hN6, (hC2.grown (w := w2.drew) hg5 (by first | (simp; done) | (simp; omega))).grown hg6 (by first | (simp; done) | (simp; omega)), hB5.grown hg6 (by have := hB5.size; omega) (by intro k hk; cases hk; omega)⟩
            · have e1 : (b1 != 0) = true := by simp [hb1]
              go_wp2_with (refine store_mix rfl _ _ rfl rfl w3.heap.size n1 b1 n2 b2 rfl rfl 0 0 0 0 hMx ?_; intro w4 hM4 hg4 hs4; have c1 := hM4.c1)
              have hA4 := hA3.grown hg4 (by first | (simp; done) | (simp; omega))
              have hB4 := hB3.grown hg4 (by first | (simp; done) | (simp; omega))
              have hC4 := hC3.grown hg4 (by first | (simp; done) | (simp; omega))
              have hW5 : Below w.heap.size w w4 := hW4.grown hg4 (by simp; omega) (by intro k hk; cases hk; omega)
              have hs4' : w4.heap.size = w3.heap.size + 1 := by rw [hs4]; simp
              obtain ⟨v1, hv1⟩ : ∃ v : Nat, n1 * (a : Int) + b1 * (gk : Int) = (v : Int) := ⟨(n1 * (a : Int) + b1 * (gk : Int)).toNat, by have := HL.out.1; omega⟩
              obtain ⟨v2, hv2⟩ : ∃ v : Nat, n2 * (a : Int) + b2 * (gk : Int) = (v : Int) := ⟨(n2 * (a : Int) + b2 * (gk : Int)).toNat, by have := HL.out.2; omega⟩
              have hst : v2 < v1 ∧ v1 ≤ gk := by
                rcases HM.out.st with h | h
                · exact absurd h.2.1 hb1
                · rw [hv1, hv2] at h; omega
              have hgc : Nat.gcd v1 v2 = Nat.gcd n m := by
                have h := HM.out.gc
                rw [hv1, hv2] at h
                rw [← HR.out.2.2]
                simpa [Int.gcd] using h
              clear hA3 hB3 hC3 hW4 hWw hMx hg4 hs4 c1 HL
              refine late_begin [14, 15] (fun w' => NatAt w' w.heap.size kc pc ∧ NatAt w' (w.heap.size + 1) jc qc ∧ MixAt w' w3.heap.size n1 b1 n2 b2) (by kernel_rfl) ?_
              have hS : NatAt w4.drew w.heap.size kc pc ∧ NatAt w4.drew (w.heap.size + 1) jc qc ∧ MixAt w4.drew w3.heap.size n1 b1 n2 b2 := ⟨hA4, hB4, hM4⟩
              refine late_val 0 (some 37) rfl rfl (by kernel_rfl) (by kernel_rfl) (by kernel_rfl) [6, 14, 15] (by kernel_rfl) noPanic_put rfl (.agg (natC kc pc)) (fun _ h => run_nat0 _ rfl w.heap.size rfl kc pc hpc h.1) hS ?_
              simp only [Act.put, List.setIfInBounds_toArray, List.set_cons_zero, List.set_cons_succ]
              refine late_val 1 (some 38) rfl rfl (by kernel_rfl) (by kernel_rfl) (by kernel_rfl) [2, 6, 14, 15] (by kernel_rfl) noPanic_put rfl (.pointer (some ⟨w3.heap.size, 0, none⟩)) (fun _ _ => by go_simp) hS ?_
              simp only [Act.put, List.setIfInBounds_toArray, List.set_cons_zero, List.set_cons_succ]
              refine late_val 2 (some 39) rfl rfl (by kernel_rfl) (by kernel_rfl) (by kernel_rfl) [6, 14, 15] (by kernel_rfl) noPanic_put rfl (.int .i64 n1) (fun _ h => by have c := h.2.2.c0; go_simp) hS ?_
              simp only [Act.put, List.setIfInBounds_toArray, List.set_cons_zero, List.set_cons_succ]
              refine late_val 3 (some 40) rfl rfl (by kernel_rfl) (by kernel_rfl) (by kernel_rfl) [6, 14, 15] (by kernel_rfl) noPanic_put rfl (.agg (natC jc qc)) (fun _ h => run_nat0 _ rfl (w.heap.size + 1) rfl jc qc hqc h.2.1) hS ?_
              simp only [Act.put, List.setIfInBounds_toArray, List.set_cons_zero, List.set_cons_succ]
              refine late_val 4 (some 41) rfl rfl (by kernel_rfl) (by kernel_rfl) (by kernel_rfl) [5, 6, 14, 15] (by kernel_rfl) noPanic_put rfl (.pointer (some ⟨w3.heap.size, 1, none⟩)) (fun _ _ => by go_simp) hS ?_
              simp only [Act.put, List.setIfInBounds_toArray, List.set_cons_zero, List.set_cons_succ]
              refine late_val 5 (some 42) rfl rfl (by kernel_rfl) (by kernel_rfl) (by kernel_rfl) [6, 14, 15] (by kernel_rfl) noPanic_put rfl (.int .i64 b1) (fun _ h => by have c := h.2.2.c1; go_simp) hS ?_
              simp only [Act.put, List.setIfInBounds_toArray, List.set_cons_zero, List.set_cons_succ]
              refine late_val 7 (some 44) rfl rfl (by kernel_rfl) (by kernel_rfl) (by kernel_rfl) [13, 14, 15] (by kernel_rfl) noPanic_put rfl (.agg (natC kc pc)) (fun _ h => run_nat0 _ rfl w.heap.size rfl kc pc hpc h.1) hS ?_
              simp only [Act.put, List.setIfInBounds_toArray, List.set_cons_zero, List.set_cons_succ]
              refine late_val 8 (some 45) rfl rfl (by kernel_rfl) (by kernel_rfl) (by kernel_rfl) [9, 13, 14, 15] (by kernel_rfl) noPanic_put rfl (.pointer (some ⟨w3.heap.size, 2, none⟩)) (fun _ _ => by go_simp) hS ?_
              simp only [Act.put, List.setIfInBounds_toArray, List.set_cons_zero, List.set_cons_succ]
              refine late_val 9 (some 46) rfl rfl (by kernel_rfl) (by kernel_rfl) (by kernel_rfl) [13, 14, 15] (by kernel_rfl) noPanic_put rfl (.int .i64 n2) (fun _ h => by have c := h.2.2.c2; go_simp) hS ?_
              simp only [Act.put, List.setIfInBounds_toArray, List.set_cons_zero, List.set_cons_succ]
              refine late_val 10 (some 47) rfl rfl (by kernel_rfl) (by kernel_rfl) (by kernel_rfl) [13, 14, 15] (by kernel_rfl) noPanic_put rfl (.agg (natC jc qc)) (fun _ h => run_nat0 _ rfl (w.heap.size + 1) rfl jc qc hqc h.2.1) hS ?_
              simp only [Act.put, List.setIfInBounds_toArray, List.set_cons_zero, List.set_cons_succ]
              refine late_val 11 (some 48) rfl rfl (by kernel_rfl) (by kernel_rfl) (by kernel_rfl) [12, 13, 14, 15] (by kernel_rfl) noPanic_put rfl (.pointer (some ⟨w3.heap.size, 3, none⟩)) (fun _ _ => by go_simp) hS ?_
              simp only [Act.put, List.setIfInBounds_toArray, List.set_cons_zero, List.set_cons_succ]
              refine late_val 12 (some 49) rfl rfl (by kernel_rfl) (by kernel_rfl) (by kernel_rfl) [13, 14, 15] (by kernel_rfl) noPanic_put rfl (.int .i64 b2) (fun _ h => by have c := h.2.2.c3; go_simp) hS ?_
              simp only [Act.put, List.setIfInBounds_toArray, List.set_cons_zero, List.set_cons_succ]
              refine late_call 6 (some 43) (by kernel_rfl) rfl rfl rfl 48 #[.agg (natC kc pc), .int .i64 n1, .agg (natC jc qc), .int .i64 b1] (by go_simp) _ (combined_any n1 b1 w4.drew v1 HR.out.1 HR.out.2.1 hkc hjc HM.out.bd.1 HM.out.bd.2.1 hv1) ?_
              rintro e w5 ⟨i, r, rfl, hR1, hW1⟩
              have hW1 : Below w4.heap.size w4 w5 := ⟨hW1.os, hW1.tape, hW1.output, hW1.size, hW1.block⟩
              have hs5 := hW1.size
              have hr := hR1.len
              have hS1 : NatAt w5 w.heap.size kc pc ∧ NatAt w5 (w.heap.size + 1) jc qc ∧ MixAt w5 w3.heap.size n1 b1 n2 b2 := ⟨hA4.below hW1 (by omega), hB4.below hW1 (by omega), hM4.below hW1 (by omega)⟩
              refine ⟨_, rfl, .inr hS1, ?_⟩
              simp only [Act.put, List.setIfInBounds_toArray, List.set_cons_zero, List.set_cons_succ]
              refine late_call 13 (some 50) (by kernel_rfl) rfl rfl rfl 48 #[.agg (natC kc pc), .int .i64 n2, .agg (natC jc qc), .int .i64 b2] (by go_simp) _ (combined_any n2 b2 w5 v2 HR.out.1 HR.out.2.1 hkc hjc HM.out.bd.2.2.1 HM.out.bd.2.2.2 hv2) ?_
              rintro e w6 ⟨j', s, rfl, hR2, hW2⟩
              have hs6 := hW2.size
              have hs := hR2.len
              have hS2 : NatAt w6 w.heap.size kc pc ∧ NatAt w6 (w.heap.size + 1) jc qc ∧ MixAt w6 w3.heap.size n1 b1 n2 b2 := ⟨hS1.1.below hW2 (by omega), hS1.2.1.below hW2 (by omega), hS1.2.2.below hW2 (by omega)⟩
              refine ⟨_, rfl, .inr hS2, ?_⟩
              simp only [Act.put, List.setIfInBounds_toArray, List.set_cons_zero, List.set_cons_succ]
              have hC6 := (hC4.below hW1 (by omega)).below hW2 (by omega)
              have hsr := hW5.size
              have hW6 : Below w.heap.size w w6 := (hW5.trans (hW1.mono (by omega))).trans (hW2.mono (by omega))
              refine late_store 14 (by kernel_rfl) rfl rfl _ _ rfl rfl w.heap.size i r rfl rfl kc pc hS2.1 hpc hr ?_
              intro w7 hN7 hg7 hs7
              refine ⟨.inl ⟨14, by simp, rfl⟩, ?_⟩
              refine late_store 15 (by kernel_rfl) rfl rfl _ _ rfl rfl (w.heap.size + 1) j' s rfl rfl jc qc (hS2.2.1.grown hg7 (by first | (simp; done) | (simp; omega))) hqc hs ?_
              intro w8 hN8 hg8 hs8
              refine ⟨.inl ⟨14, by simp, rfl⟩, ?_⟩
              refine late_done (by kernel_rfl) ?_ _
              refine NoPanic.normal ?_
              have hki := hR1.cnt_le HR.out.2.1 hst.2
              have hji := hR2.cnt_le HR.out.2.1 (by omega)
              have HR' : Hid (Rep v1 i r ∧ Rep v2 j' s ∧ Nat.gcd v1 v2 = Nat.gcd n m) := ⟨hR1, hR2, hgc⟩
              have hA8 := hN7.grown hg8 (by first | (simp; done) | (simp; omega))
              have hC8 := (hC6.grown hg7 (by first | (simp; done) | (simp; omega))).grown hg8 (by first | (simp; done) | (simp; omega))
              have hW8 : Below w.heap.size w w8 := (hW6.grown hg7 (by omega) (by intro k hk; cases hk; omega)).grown hg8 (by omega) (by intro k hk; cases hk; omega)
              clear hS hS1 hS2 hA4 hB4 hC4 hM4 hW1 hW2 hW5 hW6 hC6 hR1 hR2 HR HM b0 hg7 hg8 hN7
              go_wp2
              go_roundg v2
              case measure => omega
              case rel => exact ⟨v1, i, j', r, s, HR', by omega, by omega, hr, hs, hA8, hN8, hC8, hW8⟩
      · rcases Int.lt_or_le (kc : Int) 3 with q2 | q2
        · obtain ⟨T, hT⟩ : ∃ T : Nat, 3 = T + 3 := ⟨3 - 3, by omega⟩
          have HT := hide hT
          clear hT
          go_wp2
          clear a0
          refine held_begin (fun w' => NatAt w' w.heap.size kc pc ∧ NatAt w' (w.heap.size + 1) jc qc) (by kernel_rfl) ?_
          have hS : NatAt wr.drew w.heap.size kc pc ∧ NatAt wr.drew (w.heap.size + 1) jc qc := ⟨hA, hBq⟩
          refine held_load 0 (some 19) rfl rfl (by kernel_rfl) (by kernel_rfl) (by kernel_rfl) noPanic_put rfl _ rfl w.heap.size rfl kc pc (fun _ h => h.1) hpc hS ?_
          simp only [Act.put, List.setIfInBounds_toArray, List.set_cons_zero, List.set_cons_succ]
          refine held_val 1 (some 20) rfl rfl (by kernel_rfl) (by kernel_rfl) (by kernel_rfl) noPanic_put rfl (.int .i64 (3 : Int)) (fun _ => by go_simp) hS ?_
          simp only [Act.put, List.setIfInBounds_toArray, List.set_cons_zero, List.set_cons_succ]
          refine held_load 3 (some 22) rfl rfl (by kernel_rfl) (by kernel_rfl) (by kernel_rfl) noPanic_put rfl _ rfl (w.heap.size + 1) rfl jc qc (fun _ h => h.2) hqc hS ?_
          simp only [Act.put, List.setIfInBounds_toArray, List.set_cons_zero, List.set_cons_succ]
          refine held_val 4 (some 23) rfl rfl (by kernel_rfl) (by kernel_rfl) (by kernel_rfl) noPanic_put rfl (.int .i64 (3 : Int)) (fun _ => by go_simp) hS ?_
          simp only [Act.put, List.setIfInBounds_toArray, List.set_cons_zero, List.set_cons_succ]
          refine held_call 2 (some 21) (by kernel_rfl) rfl rfl rfl 44 #[.agg (natC kc pc), .int .i64 (3 : Int)] (by go_simp) _ (lead_any (T) (3) wr.drew HR.out.1 HT.out (by omega)) ?_
          rintro e w1 ⟨rfl, hW1⟩
          have hW1 : Below wr.heap.size wr w1 := ⟨hW1.os, hW1.tape, hW1.output, hW1.size, hW1.block⟩
          have hS1 : NatAt w1 w.heap.size kc pc ∧ NatAt w1 (w.heap.size + 1) jc qc := ⟨hA.below hW1 (by omega), hBq.below hW1 (by omega)⟩
          refine ⟨_, rfl, hS1, ?_⟩
          simp only [Act.put, List.setIfInBounds_toArray, List.set_cons_zero, List.set_cons_succ]
          refine held_call 5 (some 24) (by kernel_rfl) rfl rfl rfl 44 #[.agg (natC jc qc), .int .i64 (3 : Int)] (by go_simp) _ (lead_any (T) (3) w1 HR.out.2.1 HT.out (by omega)) ?_
          rintro e w2 ⟨rfl, hW2⟩
          have hS2 : NatAt w2 w.heap.size kc pc ∧ NatAt w2 (w.heap.size + 1) jc qc := ⟨hS1.1.below hW2 (by have := hW1.size; omega), hS1.2.below hW2 (by have := hW1.size; omega)⟩
          refine ⟨_, rfl, hS2, ?_⟩
          simp only [Act.put, List.setIfInBounds_toArray, List.set_cons_zero, List.set_cons_succ]
          refine held_assign 6 (some 6) (by kernel_rfl) rfl rfl _ rfl rfl _ rfl hS2 ?_
          simp only [Act.put, List.setIfInBounds_toArray, List.set_cons_zero, List.set_cons_succ]
          refine held_assign 7 (some 7) (by kernel_rfl) rfl rfl _ rfl rfl _ rfl hS2 ?_
          simp only [Act.put, List.setIfInBounds_toArray, List.set_cons_zero, List.set_cons_succ]
          refine wpAnyH_done (by kernel_rfl) ?_ _
          refine NoPanic.normal ?_
          obtain ⟨hA2, hB2⟩ := hS2
          have hs2 : wr.heap.size ≤ w2.heap.size := Nat.le_trans hW1.size hW2.size
          have hC2 := (hC.below hW1 (by omega)).below hW2 (by have := hW1.size; omega)
          have hWW : Below w.heap.size w w2 := (hW.trans (hW1.mono (by omega))).trans (hW2.mono (by have := hW1.size; omega))
          have xb := lead_bd HR.out.1 (T + 2) (T + 1) (T)
          have yb := lead_bd HR.out.2.1 (T + 2) (T + 1) (T)
          obtain ⟨N', hN0, hN1, hNe⟩ := lead_split HR.out.1 (T) (by have := HT.out; omega) (by have := HT.out; omega)
          obtain ⟨B', hB0, hB1, hBe⟩ := lead_split HR.out.2.1 (T) (by have := HT.out; omega) (by have := HT.out; omega)
          generalize hX : (pc.getD (T + 2) 0 * 1000000 + pc.getD (T + 1) 0) * 1000000 + pc.getD (T) 0 = X at xb hNe ⊢
          generalize hY : (qc.getD (T + 2) 0 * 1000000 + qc.getD (T + 1) 0) * 1000000 + qc.getD (T) 0 = Y at yb hBe ⊢
          obtain ⟨x0, x1⟩ := xb
          obtain ⟨y0, y1⟩ := yb
          clear hX hY hS hS1 hA hBq hC hW hW1 hW2
          have HT0 : Hid (T = 0) := by have := HT.out; unfold Hid; omega
          have HN := hide (And.intro hNe hBe)
          have HN2 := hide (And.intro (And.intro hN0 hN1) (And.intro hB0 hB1))
          clear hNe hBe hN0 hN1 hB0 hB1
          go_wp2_with fail
          refine (gcdOf_any X Y w2 x0 x1 y0 y1).mono ?_
          rintro e w3 ⟨rfl, hW3⟩
          have hXn : X = (a : Int) := by
            have h1 := HN.out.1
            have h2 := HN2.out.1
            rw [HT0.out] at h1 h2
            simp only [Int.pow_zero] at h1 h2
            omega
          have hYn : Y = (gk : Int) := by
            have h1 := HN.out.2
            have h2 := HN2.out.2
            rw [HT0.out] at h1 h2
            simp only [Int.pow_zero] at h1 h2
            omega
          have hgc : Int.gcd X Y = Nat.gcd a gk := by rw [hXn, hYn]; simp [Int.gcd]
          have hgk : 0 < gk := by
            rcases Nat.eq_zero_or_pos gk with h | h
            · have := HR.out.2.1.zero_iff.2 h; omega
            · exact h
          have hgle : Nat.gcd a gk ≤ gk := Nat.gcd_le_right _ hgk
          rw [hgc]
          have HE : Hid (Nat.gcd a gk = Nat.gcd n m) := HR.out.2.2
          obtain ⟨G, hG⟩ : ∃ G : Int, G = ((Nat.gcd a gk : Nat) : Int) := ⟨_, rfl⟩
          have hG1 : G ≤ 999999999999999999 := by omega
          have hG0 : 0 ≤ G := by omega
          rw [← hG]
          have HG := hide hG
          clear hG hgle hXn hYn hgc hgk x0 x1 y0 y1
          go_wp2_with fail
          refine (natOf_big (Nat.gcd a gk) G w3 HG.out hG0 hG1).mono ?_
          rintro e w4 ⟨i, r, rfl, hR4, hW4⟩
          have hr := hR4.len
          have hC4 := (hC2.below hW3 (by omega)).below hW4 (by have := hW3.size; omega)
          have hW5 : Below w.heap.size w w4 := (hWW.trans (hW3.mono (by omega))).trans (hW4.mono (by have := hW3.size; omega))
          have HR4 : Hid (Rep (Nat.gcd n m) i r) := by unfold Hid; rw [← HE.out]; exact hR4
          clear hR4 hA2 hB2 hC2 hWW hW3 hW4 HR HE
          go_wp2_with (refine store_nat rfl _ _ rfl rfl (w.heap.size + 1 + 1) i r rfl rfl 0 zP hC4 zP_len hr ?_; intro w5 hN5 hg5 hs5)
          refine bodyPost_ret (v := .agg (natC i r)) (res_nat Tryd.results30 _ _ (w.heap.size + 1 + 1) _ _ rfl hN5 hr) rfl ⟨i, r, rfl, HR4.out, ?_⟩
          exact hW5.grown hg5 (by have := hW5.size; omega) (by intro k hk; cases hk; omega)
        · obtain ⟨T, hT⟩ : ∃ T : Nat, kc = T + 3 := ⟨kc - 3, by omega⟩
          have HT := hide hT
          clear hT
          go_wp2
          clear a0
          refine held_begin (fun w' => NatAt w' w.heap.size kc pc ∧ NatAt w' (w.heap.size + 1) jc qc) (by kernel_rfl) ?_
          have hS : NatAt wr.drew w.heap.size kc pc ∧ NatAt wr.drew (w.heap.size + 1) jc qc := ⟨hA, hBq⟩
          refine held_load 0 (some 19) rfl rfl (by kernel_rfl) (by kernel_rfl) (by kernel_rfl) noPanic_put rfl _ rfl w.heap.size rfl kc pc (fun _ h => h.1) hpc hS ?_
          simp only [Act.put, List.setIfInBounds_toArray, List.set_cons_zero, List.set_cons_succ]
          refine held_val 1 (some 20) rfl rfl (by kernel_rfl) (by kernel_rfl) (by kernel_rfl) noPanic_put rfl (.int .i64 (kc : Int)) (fun _ => by go_simp) hS ?_
          simp only [Act.put, List.setIfInBounds_toArray, List.set_cons_zero, List.set_cons_succ]
          refine held_load 3 (some 22) rfl rfl (by kernel_rfl) (by kernel_rfl) (by kernel_rfl) noPanic_put rfl _ rfl (w.heap.size + 1) rfl jc qc (fun _ h => h.2) hqc hS ?_
          simp only [Act.put, List.setIfInBounds_toArray, List.set_cons_zero, List.set_cons_succ]
          refine held_val 4 (some 23) rfl rfl (by kernel_rfl) (by kernel_rfl) (by kernel_rfl) noPanic_put rfl (.int .i64 (kc : Int)) (fun _ => by go_simp) hS ?_
          simp only [Act.put, List.setIfInBounds_toArray, List.set_cons_zero, List.set_cons_succ]
          refine held_call 2 (some 21) (by kernel_rfl) rfl rfl rfl 44 #[.agg (natC kc pc), .int .i64 (kc : Int)] (by go_simp) _ (lead_any (T) (kc) wr.drew HR.out.1 HT.out (by omega)) ?_
          rintro e w1 ⟨rfl, hW1⟩
          have hW1 : Below wr.heap.size wr w1 := ⟨hW1.os, hW1.tape, hW1.output, hW1.size, hW1.block⟩
          have hS1 : NatAt w1 w.heap.size kc pc ∧ NatAt w1 (w.heap.size + 1) jc qc := ⟨hA.below hW1 (by omega), hBq.below hW1 (by omega)⟩
          refine ⟨_, rfl, hS1, ?_⟩
          simp only [Act.put, List.setIfInBounds_toArray, List.set_cons_zero, List.set_cons_succ]
          refine held_call 5 (some 24) (by kernel_rfl) rfl rfl rfl 44 #[.agg (natC jc qc), .int .i64 (kc : Int)] (by go_simp) _ (lead_any (T) (kc) w1 HR.out.2.1 HT.out (by omega)) ?_
          rintro e w2 ⟨rfl, hW2⟩
          have hS2 : NatAt w2 w.heap.size kc pc ∧ NatAt w2 (w.heap.size + 1) jc qc := ⟨hS1.1.below hW2 (by have := hW1.size; omega), hS1.2.below hW2 (by have := hW1.size; omega)⟩
          refine ⟨_, rfl, hS2, ?_⟩
          simp only [Act.put, List.setIfInBounds_toArray, List.set_cons_zero, List.set_cons_succ]
          refine held_assign 6 (some 6) (by kernel_rfl) rfl rfl _ rfl rfl _ rfl hS2 ?_
          simp only [Act.put, List.setIfInBounds_toArray, List.set_cons_zero, List.set_cons_succ]
          refine held_assign 7 (some 7) (by kernel_rfl) rfl rfl _ rfl rfl _ rfl hS2 ?_
          simp only [Act.put, List.setIfInBounds_toArray, List.set_cons_zero, List.set_cons_succ]
          refine wpAnyH_done (by kernel_rfl) ?_ _
          refine NoPanic.normal ?_
          obtain ⟨hA2, hB2⟩ := hS2
          have hs2 : wr.heap.size ≤ w2.heap.size := Nat.le_trans hW1.size hW2.size
          have hC2 := (hC.below hW1 (by omega)).below hW2 (by have := hW1.size; omega)
          have hWW : Below w.heap.size w w2 := (hW.trans (hW1.mono (by omega))).trans (hW2.mono (by have := hW1.size; omega))
          have xb := lead_bd HR.out.1 (T + 2) (T + 1) (T)
          have yb := lead_bd HR.out.2.1 (T + 2) (T + 1) (T)
          obtain ⟨N', hN0, hN1, hNe⟩ := lead_split HR.out.1 (T) (by have := HT.out; omega) (by have := HT.out; omega)
          obtain ⟨B', hB0, hB1, hBe⟩ := lead_split HR.out.2.1 (T) (by have := HT.out; omega) (by have := HT.out; omega)
          generalize hX : (pc.getD (T + 2) 0 * 1000000 + pc.getD (T + 1) 0) * 1000000 + pc.getD (T) 0 = X at xb hNe ⊢
          generalize hY : (qc.getD (T + 2) 0 * 1000000 + qc.getD (T + 1) 0) * 1000000 + qc.getD (T) 0 = Y at yb hBe ⊢
          obtain ⟨x0, x1⟩ := xb
          obtain ⟨y0, y1⟩ := yb
          clear hX hY hS hS1 hA hBq hC hW hW1 hW2
          by_cases h3 : (kc : Int) = 3
          · have HT0 : Hid (T = 0) := by have := HT.out; unfold Hid; omega
            have e0 : ((kc : Int) == 3) = true := by simp [h3]
            clear h3
            have HN := hide (And.intro hNe hBe)
            have HN2 := hide (And.intro (And.intro hN0 hN1) (And.intro hB0 hB1))
            clear hNe hBe hN0 hN1 hB0 hB1
            go_wp2_with fail
            refine (gcdOf_any X Y w2 x0 x1 y0 y1).mono ?_
            rintro e w3 ⟨rfl, hW3⟩
            have hXn : X = (a : Int) := by
              have h1 := HN.out.1
              have h2 := HN2.out.1
              rw [HT0.out] at h1 h2
              simp only [Int.pow_zero] at h1 h2
              omega
            have hYn : Y = (gk : Int) := by
              have h1 := HN.out.2
              have h2 := HN2.out.2
              rw [HT0.out] at h1 h2
              simp only [Int.pow_zero] at h1 h2
              omega
            have hgc : Int.gcd X Y = Nat.gcd a gk := by rw [hXn, hYn]; simp [Int.gcd]
            have hgk : 0 < gk := by
              rcases Nat.eq_zero_or_pos gk with h | h
              · have := HR.out.2.1.zero_iff.2 h; omega
              · exact h
            have hgle : Nat.gcd a gk ≤ gk := Nat.gcd_le_right _ hgk
            rw [hgc]
            have HE : Hid (Nat.gcd a gk = Nat.gcd n m) := HR.out.2.2
            obtain ⟨G, hG⟩ : ∃ G : Int, G = ((Nat.gcd a gk : Nat) : Int) := ⟨_, rfl⟩
            have hG1 : G ≤ 999999999999999999 := by omega
            have hG0 : 0 ≤ G := by omega
            rw [← hG]
            have HG := hide hG
            clear hG hgle hXn hYn hgc hgk x0 x1 y0 y1
            go_wp2_with fail
            refine (natOf_big (Nat.gcd a gk) G w3 HG.out hG0 hG1).mono ?_
            rintro e w4 ⟨i, r, rfl, hR4, hW4⟩
            have hr := hR4.len
            have hC4 := (hC2.below hW3 (by omega)).below hW4 (by have := hW3.size; omega)
            have hW5 : Below w.heap.size w w4 := (hWW.trans (hW3.mono (by omega))).trans (hW4.mono (by have := hW3.size; omega))
            have HR4 : Hid (Rep (Nat.gcd n m) i r) := by unfold Hid; rw [← HE.out]; exact hR4
            clear hR4 hA2 hB2 hC2 hWW hW3 hW4 HR HE
            go_wp2_with (refine store_nat rfl _ _ rfl rfl (w.heap.size + 1 + 1) i r rfl rfl 0 zP hC4 zP_len hr ?_; intro w5 hN5 hg5 hs5)
            refine bodyPost_ret (v := .agg (natC i r)) (res_nat Tryd.results30 _ _ (w.heap.size + 1 + 1) _ _ rfl hN5 hr) rfl ⟨i, r, rfl, HR4.out, ?_⟩
            exact hW5.grown hg5 (by have := hW5.size; omega) (by intro k hk; cases hk; omega)
          · have e0 : ((kc : Int) == 3) = false := by simp [h3]
            clear h3
            go_wp2_with fail
            refine (sureSteps_any X Y (1000000 ^ (T)) N' B' w2 x0 x1 y0 y1 hN0 hN1 hB0 hB1).mono ?_
            rintro e w3 ⟨x, y, n1, b1, n2, b2, rfl, hM, hW3⟩
            rw [← hNe, ← hBe] at hM
            have hl1 := mix_low (S := 1000000 ^ (T)) hM.hx hM.a1 hM.a2 (by rcases hM.sg with s | s <;> omega) hN0 hN1 hB0 hB1
            have hl2 := mix_low (S := 1000000 ^ (T)) hM.hy hM.c1 hM.c2 (by rcases hM.sg with s | s <;> omega) hN0 hN1 hB0 hB1
            rw [← hNe, ← hBe] at hl1 hl2
            have HM := hide hM
            have HL := hide (And.intro hl1 hl2)
            clear hM hl1 hl2 hNe hBe hN0 hN1 hB0 hB1 x0 x1 y0 y1
            have hs3 := hW3.size
            have hA3 := (hA2.below hW3 (by have := hA2.lt; omega)).old (.cells (mixC 0 0 0 0) 68)
            have hB3 := (hB2.below hW3 (by have := hB2.lt; omega)).old (.cells (mixC 0 0 0 0) 68)
            have hC3 := (hC2.below hW3 (by have := hC2.lt; omega)).old (.cells (mixC 0 0 0 0) 68)
            have hWw : Below w.heap.size w w3 := hWW.trans (hW3.mono (by omega))
            have hW4 : Below w.heap.size w (w3.alloc (.cells (mixC 0 0 0 0) 68)) := hWw.alloc (by omega) _
            have hMx := MixAt.new w3 0 0 0 0
            have lC := hC2.lt
            clear hA2 hB2 hC2 hW3 hWW
            by_cases hb1 : b1 = 0
            · subst hb1
              have e1 : ((0 : Int) != 0) = false := rfl
              go_wp2_with (first | (refine store_mix rfl _ _ rfl rfl w3.heap.size n1 0 n2 b2 rfl rfl 0 0 0 0 hMx ?_; intro w4 hM4 hg4 hs4; have c1 := hM4.c1; have hA4 := hA3.grown hg4 (by first | (simp; done) | (simp; omega)); have hB4 := hB3.grown hg4 (by first | (simp; done) | (simp; omega))) | (refine load_nat rfl _ rfl w.heap.size rfl kc pc hA4 hpc ?_) | (refine load_nat rfl _ rfl (w.heap.size + 1) rfl jc qc hB4 hqc ?_))
              have hC4 := hC3.grown hg4 (by first | (simp; done) | (simp; omega))
              have hW5 : Below w.heap.size w w4 := hW4.grown hg4 (by simp; omega) (by intro k hk; cases hk; omega)
              have hs4' : w4.heap.size = w3.heap.size + 1 := by rw [hs4]; simp
              clear hA3 hB3 hC3 hW4 hWw hMx hg4 hs4 hM4 c1 HM HL
              refine (divide_any w4 HR.out.1 HR.out.2.1 h0 hkc).mono ?_
              rintro e w1 ⟨i, j', r, s, rfl, hR1, hR2, hW1⟩
              have hr := hR1.len
              have hs := hR2.len
              have hg0 : gk ≠ 0 := fun e => by have := HR.out.2.1.zero_iff.2 e; omega
              have hlt : a % gk < gk := Nat.mod_lt _ (by omega)
              have hjs := hR2.cnt_le HR.out.2.1 (by omega)
              have HR' : Hid (Rep gk jc qc ∧ Rep (a % gk) j' s ∧ Nat.gcd gk (a % gk) = Nat.gcd n m) := by
                refine ⟨HR.out.2.1, hR2, ?_⟩
                rw [← HR.out.2.2, Nat.gcd_comm a gk, Nat.gcd_rec gk a, Nat.gcd_comm]
              have hsr := hW5.size
              have hA1 := hA4.below hW1 (by omega)
              have hB1 := hB4.below hW1 (by omega)
              have hC1 := hC4.below hW1 (by omega)
              have hW1' : Below w.heap.size w w1 := hW5.trans (hW1.mono (by omega))
              have hs1 := hW1.size
              have F1 := (NatAt.new w1 0 zP).old (.cells (natC 0 zP) 35)
              have F2 := NatAt.new (w1.alloc (.cells (natC 0 zP) 35)) 0 zP
              simp only [World.size_alloc] at F2
              clear hR1 hR2 HR hA4 hB4 hC4 hW5 hW1 b0
              go_wp2_with (first | (refine store_nat rfl _ _ rfl rfl w1.heap.size i r rfl rfl 0 zP F1 zP_len hr ?_; intro w0 hN0 hg0' hs0) | (refine store_nat rfl _ _ rfl rfl (w1.heap.size + 1) j' s rfl rfl 0 zP (F2.grown hg0' (by first | (simp; done) | (simp; omega))) zP_len hs ?_; intro w2 hN2 hg2 hs2))
              have hs2' : w2.heap.size = w1.heap.size + 1 + 1 := by rw [hs2, hs0]; simp
              have hA2 := (((hA1.old (.cells (natC 0 zP) 35)).old (.cells (natC 0 zP) 35)).grown hg0' (by first | (simp; done) | (simp; omega))).grown hg2 (by first | (simp; done) | (simp; omega))
              have hB2 := (((hB1.old (.cells (natC 0 zP) 35)).old (.cells (natC 0 zP) 35)).grown hg0' (by first | (simp; done) | (simp; omega))).grown hg2 (by first | (simp; done) | (simp; omega))
              have hC2 := (((hC1.old (.cells (natC 0 zP) 35)).old (.cells (natC 0 zP) 35)).grown hg0' (by first | (simp; done) | (simp; omega))).grown hg2 (by first | (simp; done) | (simp; omega))
              have hW2 : Below w.heap.size w w2 := (((hW1'.alloc (by omega) _).alloc (by first | (simp; done) | (simp; omega)) _).grown hg0' (by first | (simp; done) | (simp; omega)) (by intro k hk; cases hk; omega)).grown hg2 (by rw [hs0]; simp; omega) (by intro k hk; cases hk; omega)
              clear hA1 hB1 hC1 hW1' F1 F2 hg2 hs2 hg0' hs0 hN0
              refine held_begin (fun w' => NatAt w' (w1.heap.size + 1) j' s) (by kernel_rfl) ?_
              have hS : NatAt w2.drew (w1.heap.size + 1) j' s := hN2
              refine held_load 1 (some 58) rfl rfl (by kernel_rfl) (by kernel_rfl) (by kernel_rfl) noPanic_put rfl _ rfl (w1.heap.size + 1) rfl j' s (fun _ h => h) hs hS ?_
              simp only [Act.put, List.setIfInBounds_toArray, List.set_cons_zero, List.set_cons_succ]
              refine held_load1 0 (some 57) (by kernel_rfl) rfl rfl rfl _ rfl (w.heap.size + 1) rfl jc qc hB2 hqc hS ?_
              simp only [Act.put, List.setIfInBounds_toArray, List.set_cons_zero, List.set_cons_succ]
              refine held_store 2 (by kernel_rfl) rfl rfl _ _ rfl rfl w.heap.size jc qc rfl rfl kc pc hA2 hpc hqc ?_
              intro w5 hN5 hg5 hs5
              have hN25 := hN2.grown (w := w2.drew) hg5 (by first | (simp; done) | (simp; omega))
              refine ⟨hN25, ?_⟩
              refine held_store 3 (by kernel_rfl) rfl rfl _ _ rfl rfl (w.heap.size + 1) j' s rfl rfl jc qc (hB2.grown (w := w2.drew) hg5 (by first | (simp; done) | (simp; omega))) hqc hs ?_
              intro w6 hN6 hg6 hs6
              refine ⟨hN25.grown hg6 (by first | (simp; done) | (simp; omega)), ?_⟩
              refine wpAnyH_done (by kernel_rfl) ?_ _
              refine NoPanic.normal ?_
              go_wp2
              have hB5 : Below w.heap.size w w5 := hW2.drew.grown hg5 (by have := hW2.size; simp; omega) (by intro k hk; cases hk; omega)
              go_roundg (a % gk)
              case measure => omega
              case rel =>
                exact ⟨gk, jc, j', qc, s, HR', by omega, by omega, hqc, hs, hN5.grown hg6 (by first | (simp; done) | (simp; omega)), hN6, (hC2.grown (w := w2.drew) hg5 (by first | (simp; done) | (simp; omega))).grown hg6 (by first | (simp; done) | (simp; omega)), hB5.grown hg6 (by have := hB5.size; omega) (by intro k hk; cases hk; omega)⟩
            · have e1 : (b1 != 0) = true := by simp [hb1]
              go_wp2_with (refine store_mix rfl _ _ rfl rfl w3.heap.size n1 b1 n2 b2 rfl rfl 0 0 0 0 hMx ?_; intro w4 hM4 hg4 hs4; have c1 := hM4.c1)
              have hA4 := hA3.grown hg4 (by first | (simp; done) | (simp; omega))
              have hB4 := hB3.grown hg4 (by first | (simp; done) | (simp; omega))
              have hC4 := hC3.grown hg4 (by first | (simp; done) | (simp; omega))
              have hW5 : Below w.heap.size w w4 := hW4.grown hg4 (by simp; omega) (by intro k hk; cases hk; omega)
              have hs4' : w4.heap.size = w3.heap.size + 1 := by rw [hs4]; simp
              obtain ⟨v1, hv1⟩ : ∃ v : Nat, n1 * (a : Int) + b1 * (gk : Int) = (v : Int) := ⟨(n1 * (a : Int) + b1 * (gk : Int)).toNat, by have := HL.out.1; omega⟩
              obtain ⟨v2, hv2⟩ : ∃ v : Nat, n2 * (a : Int) + b2 * (gk : Int) = (v : Int) := ⟨(n2 * (a : Int) + b2 * (gk : Int)).toNat, by have := HL.out.2; omega⟩
              have hst : v2 < v1 ∧ v1 ≤ gk := by
                rcases HM.out.st with h | h
                · exact absurd h.2.1 hb1
                · rw [hv1, hv2] at h; omega
              have hgc : Nat.gcd v1 v2 = Nat.gcd n m := by
                have h := HM.out.gc
                rw [hv1, hv2] at h
                rw [← HR.out.2.2]
                simpa [Int.gcd] using h
              clear hA3 hB3 hC3 hW4 hWw hMx hg4 hs4 c1 HL
              refine late_begin [14, 15] (fun w' => NatAt w' w.heap.size kc pc ∧ NatAt w' (w.heap.size + 1) jc qc ∧ MixAt w' w3.heap.size n1 b1 n2 b2) (by kernel_rfl) ?_
              have hS : NatAt w4.drew w.heap.size kc pc ∧ NatAt w4.drew (w.heap.size + 1) jc qc ∧ MixAt w4.drew w3.heap.size n1 b1 n2 b2 := ⟨hA4, hB4, hM4⟩
              refine late_val 0 (some 37) rfl rfl (by kernel_rfl) (by kernel_rfl) (by kernel_rfl) [6, 14, 15] (by kernel_rfl) noPanic_put rfl (.agg (natC kc pc)) (fun _ h => run_nat0 _ rfl w.heap.size rfl kc pc hpc h.1) hS ?_
              simp only [Act.put, List.setIfInBounds_toArray, List.set_cons_zero, List.set_cons_succ]
              refine late_val 1 (some 38) rfl rfl (by kernel_rfl) (by kernel_rfl) (by kernel_rfl) [2, 6, 14, 15] (by kernel_rfl) noPanic_put rfl (.pointer (some ⟨w3.heap.size, 0, none⟩)) (fun _ _ => by go_simp) hS ?_
              simp only [Act.put, List.setIfInBounds_toArray, List.set_cons_zero, List.set_cons_succ]
              refine late_val 2 (some 39) rfl rfl (by kernel_rfl) (by kernel_rfl) (by kernel_rfl) [6, 14, 15] (by kernel_rfl) noPanic_put rfl (.int .i64 n1) (fun _ h => by have c := h.2.2.c0; go_simp) hS ?_
              simp only [Act.put, List.setIfInBounds_toArray, List.set_cons_zero, List.set_cons_succ]
              refine late_val 3 (some 40) rfl rfl (by kernel_rfl) (by kernel_rfl) (by kernel_rfl) [6, 14, 15] (by kernel_rfl) noPanic_put rfl (.agg (natC jc qc)) (fun _ h => run_nat0 _ rfl (w.heap.size + 1) rfl jc qc hqc h.2.1) hS ?_
              simp only [Act.put, List.setIfInBounds_toArray, List.set_cons_zero, List.set_cons_succ]
              refine late_val 4 (some 41) rfl rfl (by kernel_rfl) (by kernel_rfl) (by kernel_rfl) [5, 6, 14, 15] (by kernel_rfl) noPanic_put rfl (.pointer (some ⟨w3.heap.size, 1, none⟩)) (fun _ _ => by go_simp) hS ?_
              simp only [Act.put, List.setIfInBounds_toArray, List.set_cons_zero, List.set_cons_succ]
              refine late_val 5 (some 42) rfl rfl (by kernel_rfl) (by kernel_rfl) (by kernel_rfl) [6, 14, 15] (by kernel_rfl) noPanic_put rfl (.int .i64 b1) (fun _ h => by have c := h.2.2.c1; go_simp) hS ?_
              simp only [Act.put, List.setIfInBounds_toArray, List.set_cons_zero, List.set_cons_succ]
              refine late_val 7 (some 44) rfl rfl (by kernel_rfl) (by kernel_rfl) (by kernel_rfl) [13, 14, 15] (by kernel_rfl) noPanic_put rfl (.agg (natC kc pc)) (fun _ h => run_nat0 _ rfl w.heap.size rfl kc pc hpc h.1) hS ?_
              simp only [Act.put, List.setIfInBounds_toArray, List.set_cons_zero, List.set_cons_succ]
              refine late_val 8 (some 45) rfl rfl (by kernel_rfl) (by kernel_rfl) (by kernel_rfl) [9, 13, 14, 15] (by kernel_rfl) noPanic_put rfl (.pointer (some ⟨w3.heap.size, 2, none⟩)) (fun _ _ => by go_simp) hS ?_
              simp only [Act.put, List.setIfInBounds_toArray, List.set_cons_zero, List.set_cons_succ]
              refine late_val 9 (some 46) rfl rfl (by kernel_rfl) (by kernel_rfl) (by kernel_rfl) [13, 14, 15] (by kernel_rfl) noPanic_put rfl (.int .i64 n2) (fun _ h => by have c := h.2.2.c2; go_simp) hS ?_
              simp only [Act.put, List.setIfInBounds_toArray, List.set_cons_zero, List.set_cons_succ]
              refine late_val 10 (some 47) rfl rfl (by kernel_rfl) (by kernel_rfl) (by kernel_rfl) [13, 14, 15] (by kernel_rfl) noPanic_put rfl (.agg (natC jc qc)) (fun _ h => run_nat0 _ rfl (w.heap.size + 1) rfl jc qc hqc h.2.1) hS ?_
              simp only [Act.put, List.setIfInBounds_toArray, List.set_cons_zero, List.set_cons_succ]
              refine late_val 11 (some 48) rfl rfl (by kernel_rfl) (by kernel_rfl) (by kernel_rfl) [12, 13, 14, 15] (by kernel_rfl) noPanic_put rfl (.pointer (some ⟨w3.heap.size, 3, none⟩)) (fun _ _ => by go_simp) hS ?_
              simp only [Act.put, List.setIfInBounds_toArray, List.set_cons_zero, List.set_cons_succ]
              refine late_val 12 (some 49) rfl rfl (by kernel_rfl) (by kernel_rfl) (by kernel_rfl) [13, 14, 15] (by kernel_rfl) noPanic_put rfl (.int .i64 b2) (fun _ h => by have c := h.2.2.c3; go_simp) hS ?_
              simp only [Act.put, List.setIfInBounds_toArray, List.set_cons_zero, List.set_cons_succ]
              refine late_call 6 (some 43) (by kernel_rfl) rfl rfl rfl 48 #[.agg (natC kc pc), .int .i64 n1, .agg (natC jc qc), .int .i64 b1] (by go_simp) _ (combined_any n1 b1 w4.drew v1 HR.out.1 HR.out.2.1 hkc hjc HM.out.bd.1 HM.out.bd.2.1 hv1) ?_
              rintro e w5 ⟨i, r, rfl, hR1, hW1⟩
              have hW1 : Below w4.heap.size w4 w5 := ⟨hW1.os, hW1.tape, hW1.output, hW1.size, hW1.block⟩
              have hs5 := hW1.size
              have hr := hR1.len
              have hS1 : NatAt w5 w.heap.size kc pc ∧ NatAt w5 (w.heap.size + 1) jc qc ∧ MixAt w5 w3.heap.size n1 b1 n2 b2 := ⟨hA4.below hW1 (by omega), hB4.below hW1 (by omega), hM4.below hW1 (by omega)⟩
              refine ⟨_, rfl, .inr hS1, ?_⟩
              simp only [Act.put, List.setIfInBounds_toArray, List.set_cons_zero, List.set_cons_succ]
              refine late_call 13 (some 50) (by kernel_rfl) rfl rfl rfl 48 #[.agg (natC kc pc), .int .i64 n2, .agg (natC jc qc), .int .i64 b2] (by go_simp) _ (combined_any n2 b2 w5 v2 HR.out.1 HR.out.2.1 hkc hjc HM.out.bd.2.2.1 HM.out.bd.2.2.2 hv2) ?_
              rintro e w6 ⟨j', s, rfl, hR2, hW2⟩
              have hs6 := hW2.size
              have hs := hR2.len
              have hS2 : NatAt w6 w.heap.size kc pc ∧ NatAt w6 (w.heap.size + 1) jc qc ∧ MixAt w6 w3.heap.size n1 b1 n2 b2 := ⟨hS1.1.below hW2 (by omega), hS1.2.1.below hW2 (by omega), hS1.2.2.below hW2 (by omega)⟩
              refine ⟨_, rfl, .inr hS2, ?_⟩
              simp only [Act.put, List.setIfInBounds_toArray, List.set_cons_zero, List.set_cons_succ]
              have hC6 := (hC4.below hW1 (by omega)).below hW2 (by omega)
              have hsr := hW5.size
              have hW6 : Below w.heap.size w w6 := (hW5.trans (hW1.mono (by omega))).trans (hW2.mono (by omega))
              refine late_store 14 (by kernel_rfl) rfl rfl _ _ rfl rfl w.heap.size i r rfl rfl kc pc hS2.1 hpc hr ?_
              intro w7 hN7 hg7 hs7
              refine ⟨.inl ⟨14, by simp, rfl⟩, ?_⟩
              refine late_store 15 (by kernel_rfl) rfl rfl _ _ rfl rfl (w.heap.size + 1) j' s rfl rfl jc qc (hS2.2.1.grown hg7 (by first | (simp; done) | (simp; omega))) hqc hs ?_
              intro w8 hN8 hg8 hs8
              refine ⟨.inl ⟨14, by simp, rfl⟩, ?_⟩
              refine late_done (by kernel_rfl) ?_ _
              refine NoPanic.normal ?_
              have hki := hR1.cnt_le HR.out.2.1 hst.2
              have hji := hR2.cnt_le HR.out.2.1 (by omega)
              have HR' : Hid (Rep v1 i r ∧ Rep v2 j' s ∧ Nat.gcd v1 v2 = Nat.gcd n m) := ⟨hR1, hR2, hgc⟩
              have hA8 := hN7.grown hg8 (by first | (simp; done) | (simp; omega))
              have hC8 := (hC6.grown hg7 (by first | (simp; done) | (simp; omega))).grown hg8 (by first | (simp; done) | (simp; omega))
              have hW8 : Below w.heap.size w w8 := (hW6.grown hg7 (by omega) (by intro k hk; cases hk; omega)).grown hg8 (by omega) (by intro k hk; cases hk; omega)
              clear hS hS1 hS2 hA4 hB4 hC4 hM4 hW1 hW2 hW5 hW6 hC6 hR1 hR2 HR HM b0 hg7 hg8 hN7
              go_wp2
              go_roundg v2
              case measure => omega
              case rel => exact ⟨v1, i, j', r, s, HR', by omega, by omega, hr, hs, hA8, hN8, hC8, hW8⟩
    · have hj0 : jc = 0 := by omega
      subst hj0
      have hE : Hid (Rep (Nat.gcd n m) kc pc) := by
        unfold Hid
        have hg := HR.out.2.1.zero_iff.1 rfl
        rw [← HR.out.2.2, hg, Nat.gcd_zero_right]
        exact HR.out.1
      clear HR
      go_wp2_with (first | (refine load_nat rfl _ rfl w.heap.size rfl kc pc hA hpc ?_) | (refine store_nat rfl _ _ rfl rfl (w.heap.size + 1 + 1) kc pc rfl rfl 0 zP hC zP_len hpc ?_; intro w3 hN3 hg3 hs3))
      refine bodyPost_ret (v := .agg (natC kc pc)) (res_nat Tryd.results30 _ _ (w.heap.size + 1 + 1) _ _ rfl hN3 hpc) rfl ⟨kc, pc, rfl, hE.out, ?_⟩
      exact hW.grown hg3 (by have := hW.size; omega) (by intro k hk; cases hk; omega)
end Go.Proofs.YtjgpjafndaikcaaDoor
