/-
  What AddReal, SubReal, MulReal and DivReal of impl answer.
-/
import Derived.Test.YtoiegaggekgmjaaPkRealNum
import Derived.Test.YtoiegaggekgmjaaImplOf
import Derived.Test.YtoiegaggekgmjaaHeldGuard
import Derived.Test.YtoiegaggekgmjaaNumPlus2
namespace Go.Proofs.Ytoiegaggekgmjaa
open Go.RowKit
set_option linter.unusedVariables false

theorem run_loadReal {o : Oper} {a : Act} {w : World} (x : Operand) (ho : o.op = .load 25 x) (b : Nat) (hx : a.eval x = .pointer (some ⟨b, 0, none⟩)) (g : Bool) (m e : Int) (hN : RowAt w b 25 #[.bool g, .int .i64 m, .int .i64 e]) :
    (execOp a.eval o).run Try.prog w = .ok (.value (.agg #[.bool g, .int .i64 m, .int .i64 e])) w := by
  have h := run_loadVar_row (P := Try.prog) w b 25 25 #[.bool g, .int .i64 m, .int .i64 e] (0, 0) _ hN Try.underlying25 rfl (real_info g m e)
  unfold execOp
  simp only [ho, hx, Instr.loadAt, Instr.sureAddr, Sem.run_bind, Sem.run_pure, Result.andThen_ok, h]
theorem held_store_real {ops : Array Oper} {Q : Exit → Act → World → Prop} {md : Region.Mode} {S : World → Prop} {o : Oper} {fuel : Nat} {listed : Array Bool} {a : Act} {w : World} (i : Nat) (hr : Region.ready md ops listed = [i]) (hi : ops[i]? = some o) (hw : Region.wanted o (yielded ops a.tmps) = true) (x y : Operand) (ho : o.op = .store 25 x y) (hd : o.dst = none)
    (b : Nat) (g : Bool) (m e : Int) (hx : a.eval x = .pointer (some ⟨b, 0, none⟩)) (hy : a.eval y = .agg #[.bool g, .int .i64 m, .int .i64 e]) (g0 : Bool) (m0 e0 : Int) (hN : RowAt w b 25 #[.bool g0, .int .i64 m0, .int .i64 e0])
    (h : ∀ w', RowAt w' b 25 #[.bool g, .int .i64 m, .int .i64 e] → w.grownBy w' (some b) → w'.heap.size = w.heap.size → S w' ∧ wpAnyH Try.prog md ops Q S fuel (listed.setIfInBounds i true) a w') : wpAnyH Try.prog md ops Q S (fuel + 1) listed a w := by
  refine wpAnyH_ready hr (by simp) (AllReadyH.cons hi (fun K hK => ?_) AllReadyH.nil)
  rw [if_pos hw]
  refine wp_store_row 25 x y ho b #[.bool g, .int .i64 m, .int .i64 e] hx hy 25 #[.bool g0, .int .i64 m0, .int .i64 e0] hN (real_info g m e) rfl (real_one _ _ _) ?_
  rw [hd]
  have := h _ (setRow_heap w b _ _ _ _ hN) ⟨rfl, rfl, rfl, by simp, fun k _ hne => setRow_other w b k _ (by intro e; exact hne (by rw [e]))⟩ (by simp)
  exact hK.out _ _ this.1 (fun _ => this.2)

theorem load_realU {ops : Array Oper} {rest : List Oper} {o : Oper} {a : Act} {w : World} {Q : Exit → Act → World → Prop} (hgd : o.guard = none) (x : Operand) (ho : o.op = .load 25 x) (b : Nat) (hx : a.eval x = .pointer (some ⟨b, 0, none⟩)) (g : Bool) (m e : Int) (hN : RowAt w b 25 #[.bool g, .int .i64 m, .int .i64 e])
    (h : wpList Try.prog ops Q rest (a.put o.dst (.agg #[.bool g, .int .i64 m, .int .i64 e])) w) : wpList Try.prog ops Q (o :: rest) a w :=
  wpList_load_row hgd 25 x ho b hx 25 #[.bool g, .int .i64 m, .int .i64 e] (0, 0) _ hN Try.underlying25 rfl (real_info g m e) h

/-- Bounds of a real's number in lowest terms. -/
theorem low_lt {n : Nat} {e : Int} (h : FinR n e) : vN n e / Nat.gcd (vN n e) (vD e) < 2 ^ 203 ∧ vD e / Nat.gcd (vN n e) (vD e) ≤ 2 ^ 150 := by
  have he : -150 ≤ e := by unfold FinR at h; omega
  exact ⟨Nat.lt_of_le_of_lt (Nat.div_le_self _ _) (vN_lt h), Nat.le_trans (Nat.div_le_self _ _) (vD_lt he)⟩
theorem two_used {n k j : Nat} {p : List Int} (h : Rep n k p) (hn : n < 2 ^ j) (hj : j ≤ 1200) : k ≤ 100 := h.fits.2 (Nat.lt_trans hn (two_lt j hj))
theorem mul_two {x y i j : Nat} (hx : x < 2 ^ i) (hy : y ≤ 2 ^ j) : x * y < 2 ^ (i + j) := by
  rw [Nat.pow_add]
  exact Nat.lt_of_le_of_lt (Nat.mul_le_mul_left _ hy) (Nat.mul_lt_mul_of_pos_right hx (Nat.two_pow_pos j))
theorem pow_up {x i j : Nat} (h : x < 2 ^ i) (hj : i ≤ j) : x < 2 ^ j := Nat.lt_of_lt_of_le h (Nat.pow_le_pow_right (by decide) hj)
theorem pow_in {x i j : Nat} (h : x ≤ 2 ^ i) (hj : i < j) : x < 2 ^ j := Nat.lt_of_le_of_lt h (Nat.pow_lt_pow_right (by decide) hj)
theorem sum_lt {g g' : Bool} {N D N' D' i j : Nat} (hN : N < 2 ^ i) (hD : D ≤ 2 ^ j) (hN' : N' < 2 ^ i) (hD' : D' ≤ 2 ^ j) : (sumZ g N D g' N' D').natAbs < 2 ^ (i + j + 1) := by
  have h1 := mul_two hN hD'
  have h2 := mul_two hN' hD
  rw [Nat.pow_succ]
  have e : (sumZ g N D g' N' D').natAbs ≤ N * D' + N' * D := by
    unfold sumZ sg
    have e1 : ((N * D' : Nat) : Int) = (N : Int) * (D' : Int) := by simp
    have e2 : ((N' * D : Nat) : Int) = (N' : Int) * (D : Int) := by simp
    cases g <;> cases g' <;> simp [Int.neg_mul] <;> omega
  omega
theorem topZ_sum (g : Bool) (N D : Nat) (g' : Bool) (N' D' : Nat) : topZ g N D g' N' D' = sumZ g N D g' N' D' := rfl
theorem low_sign (g : Bool) {n P : Nat} (h : n = 0 ↔ P = 0) (h1 : (g && decide (n ≠ 0)) = true) : P ≠ 0 := by
  intro h2
  simp at h1
  exact h1.2 (h.2 h2)
/-- The sign where the sum is none. -/
def sumNeg (Z : Int) (g g' : Bool) : Bool := decide (Z < 0) || (decide (Z = 0) && (g && g'))

set_option maxHeartbeats 8000000 in
set_option maxRecDepth 100000 in
theorem implAddReal_any (g0 : Bool) (m0 e0 : Int) (g1 : Bool) (m1 e1 : Int) (w : World) :
    Calls Try.prog 22 #[.agg #[.bool g0, .int .i64 m0, .int .i64 e0], .agg #[.bool g1, .int .i64 m1, .int .i64 e1]] w fun e' w' => AnsS (finB m0 e0 && finB m1 e1) (sumNeg (sumZ g0 (vN m0.toNat e0) (vD e0) g1 (vN m1.toNat e1) (vD e1)) g0 g1) (sumZ g0 (vN m0.toNat e0) (vD e0) g1 (vN m1.toNat e1) (vD e1)).natAbs (vD e0 * vD e1) e' ∧ Below w.heap.size w w' := by
  have hz := zero_real.1
  have A : RowAt (((w.alloc (.cells #[.bool g0, .int .i64 m0, .int .i64 e0] 25)).alloc (.cells #[.bool g1, .int .i64 m1, .int .i64 e1] 25)).alloc (.cells #[.bool false, .int .i64 0, .int .i64 0] 25)) w.heap.size 25 #[.bool g0, .int .i64 m0, .int .i64 e0] := RowAt.old (RowAt.old (RowAt.new w 25 #[.bool g0, .int .i64 m0, .int .i64 e0]) _) _
  have B : RowAt (((w.alloc (.cells #[.bool g0, .int .i64 m0, .int .i64 e0] 25)).alloc (.cells #[.bool g1, .int .i64 m1, .int .i64 e1] 25)).alloc (.cells #[.bool false, .int .i64 0, .int .i64 0] 25)) (w.heap.size + 1) 25 #[.bool g1, .int .i64 m1, .int .i64 e1] := by
    have h := RowAt.new (w.alloc (.cells #[.bool g0, .int .i64 m0, .int .i64 e0] 25)) 25 #[.bool g1, .int .i64 m1, .int .i64 e1]
    rw [World.size_alloc] at h
    exact RowAt.old h _
  have C : RowAt (((w.alloc (.cells #[.bool g0, .int .i64 m0, .int .i64 e0] 25)).alloc (.cells #[.bool g1, .int .i64 m1, .int .i64 e1] 25)).alloc (.cells #[.bool false, .int .i64 0, .int .i64 0] 25)) (w.heap.size + 1 + 1) 25 #[.bool false, .int .i64 0, .int .i64 0] := by
    have h := RowAt.new ((w.alloc (.cells #[.bool g0, .int .i64 m0, .int .i64 e0] 25)).alloc (.cells #[.bool g1, .int .i64 m1, .int .i64 e1] 25)) 25 #[.bool false, .int .i64 0, .int .i64 0]
    simp only [World.size_alloc] at h
    exact h
  have hB : Below w.heap.size w (((w.alloc (.cells #[.bool g0, .int .i64 m0, .int .i64 e0] 25)).alloc (.cells #[.bool g1, .int .i64 m1, .int .i64 e1] 25)).alloc (.cells #[.bool false, .int .i64 0, .int .i64 0] 25)) := (((Below.refl _ _).alloc (Nat.le_refl _) _).alloc (by simp) _).alloc (by simp; omega) _
  have hws : (((w.alloc (.cells #[.bool g0, .int .i64 m0, .int .i64 e0] 25)).alloc (.cells #[.bool g1, .int .i64 m1, .int .i64 e1] 25)).alloc (.cells #[.bool false, .int .i64 0, .int .i64 0] 25)).heap.size = w.heap.size + 1 + 1 + 1 := by simp
  have HF0 := hide (fun w' => isFinite_any g0 m0 e0 w')
  have HF1 := hide (fun w' => isFinite_any g1 m1 e1 w')
  obtain ⟨f0, hf0⟩ : ∃ f, f = finB m0 e0 := ⟨_, rfl⟩
  obtain ⟨f1, hf1⟩ : ∃ f, f = finB m1 e1 := ⟨_, rfl⟩
  rw [← hf0] at HF0 ⊢
  rw [← hf1] at HF1 ⊢
  have HH := hide (And.intro hf0 hf1)
  obtain ⟨neg, hneg⟩ : ∃ x, x = (sumNeg (sumZ g0 (vN m0.toNat e0) (vD e0) g1 (vN m1.toNat e1) (vD e1)) g0 g1) := ⟨_, rfl⟩
  obtain ⟨NN, hNN⟩ : ∃ x, x = (sumZ g0 (vN m0.toNat e0) (vD e0) g1 (vN m1.toNat e1) (vD e1)).natAbs := ⟨_, rfl⟩
  obtain ⟨DD, hDD⟩ : ∃ x, x = (vD e0 * vD e1) := ⟨_, rfl⟩
  rw [← hneg, ← hNN, ← hDD]
  have HND := hide (And.intro hneg (And.intro hNN hDD))
  clear hf0 hf1 hneg hNN hDD
  go_enter Try.func22, Try.ntmps22
  generalize hw0 : ((w.alloc (.cells #[.bool g0, .int .i64 m0, .int .i64 e0] 25)).alloc (.cells #[.bool g1, .int .i64 m1, .int .i64 e1] 25)).alloc (.cells #[.bool false, .int .i64 0, .int .i64 0] 25) = w0 at A B C hB hws
  go_wp2_with (with_reducible refine wpList_idO ?_; refine load_realU rfl _ rfl w.heap.size rfl g0 m0 e0 A ?_)
  refine (HF0.out w0).mono ?_
  rintro e w1 ⟨rfl, hW1⟩
  have hs1 := hW1.size
  have A1 := RowAt.below A hW1 (by omega)
  have B1 := RowAt.below B hW1 (by omega)
  have C1 := RowAt.below C hW1 (by omega)
  have hB1 : Below w.heap.size w w1 := hB.trans (hW1.mono (by omega))
  clear hw0 A B C hB hW1
  cases f0 with
  | false =>
    have HA : Hid (AnsS (false && f1) neg NN DD (.returned (.tuple #[.agg #[.bool false, .int .i64 0, .int .i64 0], .bool false]))) := .inl ⟨by simp, rfl⟩
    go_wp2_with (with_reducible refine wpList_idO ?_; refine store_3 rfl 25 _ _ rfl rfl zero_real.2 (w.heap.size + 1 + 1) _ rfl (real_one _ _ _) rfl rfl _ rfl C1 ?_; intro w2 hR2 hg2 hs2)
    exact bodyPost_ret (res_real_tmp Try.results22 _ _ (w.heap.size + 1 + 1) _ _ _ _ rfl rfl hR2) rfl ⟨HA.out, hB1.grown hg2 hB1.size (by intro k hk; cases hk; omega)⟩
  | true =>
    have c10 : w1.cell? ⟨w.heap.size + 1, 0, none⟩ = some (.bool g1) := by rw [cell_of_row _ _ _ _ _ _ B1]; rfl
    have c11 : w1.cell? ⟨w.heap.size + 1, 1, none⟩ = some (.int .i64 m1) := by rw [cell_of_row _ _ _ _ _ _ B1]; rfl
    have c12 : w1.cell? ⟨w.heap.size + 1, 2, none⟩ = some (.int .i64 e1) := by rw [cell_of_row _ _ _ _ _ _ B1]; rfl
    go_wp2_with fail
    refine (HF1.out w1).mono ?_
    rintro e w2 ⟨rfl, hW2⟩
    have hs2 := hW2.size
    have A2 := RowAt.below A1 hW2 (by omega)
    have B2 := RowAt.below B1 hW2 (by omega)
    have C2 := RowAt.below C1 hW2 (by omega)
    have hB2 : Below w.heap.size w w2 := hB1.trans (hW2.mono (by omega))
    have hs2' : w.heap.size + 1 + 1 + 1 ≤ w2.heap.size := by omega
    clear A1 B1 C1 hB1 hW2 c10 c11 c12 hs1 hs2
    cases f1 with
    | false =>
      have HA : Hid (AnsS (true && false) neg NN DD (.returned (.tuple #[.agg #[.bool false, .int .i64 0, .int .i64 0], .bool false]))) := .inl ⟨by simp, rfl⟩
      go_wp2_with (with_reducible refine wpList_idO ?_; refine store_3 rfl 25 _ _ rfl rfl zero_real.2 (w.heap.size + 1 + 1) _ rfl (real_one _ _ _) rfl rfl _ rfl C2 ?_; intro w3 hR3 hg3 hs3)
      exact bodyPost_ret (res_real_tmp Try.results22 _ _ (w.heap.size + 1 + 1) _ _ _ _ rfl rfl hR3) rfl ⟨HA.out, hB2.grown hg3 hB2.size (by intro k hk; cases hk; omega)⟩
    | true =>
      obtain ⟨n0, hn0, hF0⟩ := (finB_iff m0 e0).1 HH.out.1.symm
      obtain ⟨n1, hn1, hF1⟩ := (finB_iff m1 e1).1 HH.out.2.symm
      have ht0 : m0.toNat = n0 := by omega
      have ht1 : m1.toNat = n1 := by omega
      rw [ht0, ht1] at HND
      have HFT : Hid ((true && true) = true) := rfl
      have HN0 := hide (And.intro hn0 hF0)
      have HNN1 := hide (And.intro hn1 hF1)
      have L0 := hide (low_lt hF0)
      have L1 := hide (low_lt hF1)
      clear hn0 hn1 hF0 hF1 ht0 ht1
      go_wp2_with fail
      refine held_begin (fun w' => RowAt w' (w.heap.size) 25 #[.bool g0, .int .i64 m0, .int .i64 e0] ∧ RowAt w' (w.heap.size + 1) 25 #[.bool g1, .int .i64 m1, .int .i64 e1]) (by kernel_rfl) ?_
      have hS : RowAt w2.drew (w.heap.size) 25 #[.bool g0, .int .i64 m0, .int .i64 e0] ∧ RowAt w2.drew (w.heap.size + 1) 25 #[.bool g1, .int .i64 m1, .int .i64 e1] := ⟨A2, B2⟩
      refine held_valS 0 (some 15) rfl rfl (by kernel_rfl) (by kernel_rfl) (by kernel_rfl) noPanic_put rfl (.agg #[.bool g0, .int .i64 m0, .int .i64 e0]) (fun _ h => run_loadReal _ rfl (w.heap.size) rfl g0 m0 e0 h.1) hS ?_
      simp only [Act.put, List.setIfInBounds_toArray, List.set_cons_zero, List.set_cons_succ]
      refine held_valS 2 (some 17) rfl rfl (by kernel_rfl) (by kernel_rfl) (by kernel_rfl) noPanic_put rfl (.agg #[.bool g1, .int .i64 m1, .int .i64 e1]) (fun _ h => run_loadReal _ rfl (w.heap.size + 1) rfl g1 m1 e1 h.2) hS ?_
      simp only [Act.put, List.setIfInBounds_toArray, List.set_cons_zero, List.set_cons_succ]
      refine held_val 5 (some 20) rfl rfl (by kernel_rfl) (by kernel_rfl) (by kernel_rfl) noPanic_put rfl (.pointer (some ⟨w.heap.size, 0, none⟩)) (fun _ => by go_simp) hS ?_
      simp only [Act.put, List.setIfInBounds_toArray, List.set_cons_zero, List.set_cons_succ]
      refine held_valS 6 (some 21) rfl rfl (by kernel_rfl) (by kernel_rfl) (by kernel_rfl) noPanic_put rfl (.bool g0) (fun _ h => BL.run_cell1 _ 4 rfl ⟨w.heap.size, 0, none⟩ rfl (.bool g0) Try.underlying4 rfl (by rw [cell_of_row _ _ _ _ _ _ h.1]; rfl)) hS ?_
      simp only [Act.put, List.setIfInBounds_toArray, List.set_cons_zero, List.set_cons_succ]
      refine held_call 1 (some 16) (by kernel_rfl) rfl rfl rfl 42 #[.agg #[.bool g0, .int .i64 m0, .int .i64 e0]] (by go_simp) _ (rnum_any g0 m0 e0 w2.drew HN0.out.1 HN0.out.2) ?_
      rintro ea w3 ⟨⟨v3, rfl, i0, l0, r0, s0, rfl, hP0, hQ0⟩, hW3⟩
      have hs3 : w2.heap.size ≤ w3.heap.size := hW3.size
      have hS3 : RowAt w3 (w.heap.size) 25 #[.bool g0, .int .i64 m0, .int .i64 e0] ∧ RowAt w3 (w.heap.size + 1) 25 #[.bool g1, .int .i64 m1, .int .i64 e1] := ⟨RowAt.below hS.1 hW3 (by show _ < w2.heap.size; omega), RowAt.below hS.2 hW3 (by show _ < w2.heap.size; omega)⟩
      refine ⟨_, rfl, hS3, ?_⟩
      simp only [Act.put, List.setIfInBounds_toArray, List.set_cons_zero, List.set_cons_succ]
      refine held_call 3 (some 18) (by kernel_rfl) rfl rfl rfl 42 #[.agg #[.bool g1, .int .i64 m1, .int .i64 e1]] (by go_simp) _ (rnum_any g1 m1 e1 w3 HNN1.out.1 HNN1.out.2) ?_
      rintro eb w4 ⟨⟨v4, rfl, i1, l1, r1, s1, rfl, hP1, hQ1⟩, hW4⟩
      have hs4 : w3.heap.size ≤ w4.heap.size := hW4.size
      have hS4 : RowAt w4 (w.heap.size) 25 #[.bool g0, .int .i64 m0, .int .i64 e0] ∧ RowAt w4 (w.heap.size + 1) 25 #[.bool g1, .int .i64 m1, .int .i64 e1] := ⟨RowAt.below hS3.1 hW4 (by omega), RowAt.below hS3.2 hW4 (by omega)⟩
      have hi0 := two_used hP0 L0.out.1 (by omega)
      have hl0 := two_used hQ0 (pow_in (j := 151) L0.out.2 (by omega)) (by omega)
      have hi1 := two_used hP1 L1.out.1 (by omega)
      have hl1 := two_used hQ1 (pow_in (j := 151) L1.out.2 (by omega)) (by omega)
      have q0 : vD e0 / Nat.gcd (vN n0 e0) (vD e0) ≠ 0 := Nat.ne_of_gt (low_pos (vD_ne e0))
      have q1 : vD e1 / Nat.gcd (vN n1 e1) (vD e1) ≠ 0 := Nat.ne_of_gt (low_pos (vD_ne e1))
      have x0 := low_cross (x := vN n0 e0) (y := vD e0)
      have x1 := low_cross (x := vN n1 e1) (y := vD e1)
      have gc0 := low_gcd (x := vN n0 e0) (vD_ne e0)
      have gc1 := low_gcd (x := vN n1 e1) (vD_ne e1)
      obtain ⟨P0, hP0e⟩ : ∃ x, x = vN n0 e0 / Nat.gcd (vN n0 e0) (vD e0) := ⟨_, rfl⟩
      obtain ⟨Q0, hQ0e⟩ : ∃ x, x = vD e0 / Nat.gcd (vN n0 e0) (vD e0) := ⟨_, rfl⟩
      obtain ⟨P1, hP1e⟩ : ∃ x, x = vN n1 e1 / Nat.gcd (vN n1 e1) (vD e1) := ⟨_, rfl⟩
      obtain ⟨Q1, hQ1e⟩ : ∃ x, x = vD e1 / Nat.gcd (vN n1 e1) (vD e1) := ⟨_, rfl⟩
      have z0 : n0 = 0 ↔ P0 = 0 := ⟨fun h => by rw [hP0e, vN_zero.2 h, Nat.zero_div], fun h => Classical.byContradiction fun hn => low_ne (fun h' => hn (vN_zero.1 h')) (hP0e.symm.trans h)⟩
      have z1 : n1 = 0 ↔ P1 = 0 := ⟨fun h => by rw [hP1e, vN_zero.2 h, Nat.zero_div], fun h => Classical.byContradiction fun hn => low_ne (fun h' => hn (vN_zero.1 h')) (hP1e.symm.trans h)⟩
      rw [← hP0e] at hP0 x0 gc0 L0
      rw [← hQ0e] at hQ0 x0 gc0 q0 L0
      rw [← hP1e] at hP1 x1 gc1 L1
      rw [← hQ1e] at hQ1 x1 gc1 q1 L1
      have HX := hide (And.intro x0 x1)
      have HZZ := hide (And.intro z0 z1)
      clear x0 x1 z0 z1 hP0e hQ0e hP1e hQ1e
      refine ⟨_, rfl, hS4, ?_⟩
      simp only [Act.put, List.setIfInBounds_toArray, List.set_cons_zero, List.set_cons_succ]
      refine held_call 4 (some 19) (by kernel_rfl) rfl rfl rfl 43 #[.agg (numC (g0 && decide (n0 ≠ 0)) i0 r0 l0 s0), .agg (numC (g1 && decide (n1 ≠ 0)) i1 r1 l1 s1)] (by go_simp) _ (numPlus_any (g0 && decide (n0 ≠ 0)) (g1 && decide (n1 ≠ 0)) w4 hP0 hQ0 hP1 hQ1 hi0 hl0 hi1 hl1 (low_sign _ HZZ.out.1) q0 q1 gc0 gc1) ?_
      rintro ec w5 ⟨⟨i5, l5, r5, s5, rfl, hR5, hT5⟩, hW5⟩
      have hs5 : w4.heap.size ≤ w5.heap.size := hW5.size
      have hS5 : RowAt w5 (w.heap.size) 25 #[.bool g0, .int .i64 m0, .int .i64 e0] ∧ RowAt w5 (w.heap.size + 1) 25 #[.bool g1, .int .i64 m1, .int .i64 e1] := ⟨RowAt.below hS4.1 hW5 (by omega), RowAt.below hS4.2 hW5 (by omega)⟩
      have hZ : topZ (g0 && decide (n0 ≠ 0)) P0 Q0 (g1 && decide (n1 ≠ 0)) P1 Q1 = sumZ g0 P0 Q0 g1 P1 Q1 := by
        rw [topZ_sum]
        exact sum_drop g0 g1 HZZ.out.1.1 HZZ.out.2.1
      rw [hZ] at hR5 hT5 ⊢
      have hsx := sum_abs g0 g1 HX.out.1 HX.out.2
      have hsn := sum_sign g0 g1 HX.out.1 HX.out.2 (vD_ne e0) (vD_ne e1) q0 q1
      have hlt := sum_lt (g := g0) (g' := g1) L0.out.1 L0.out.2 L1.out.1 L1.out.2
      obtain ⟨Z1, hZ1⟩ : ∃ x, x = sumZ g0 P0 Q0 g1 P1 Q1 := ⟨_, rfl⟩
      rw [← hZ1] at hR5 hT5 hsx hsn hlt ⊢
      have hqq : Q0 * Q1 ≠ 0 := Nat.mul_ne_zero q0 q1
      have h5a : i5 ≤ 100 := two_used hR5 (Nat.lt_of_le_of_lt (Nat.div_le_self _ _) hlt) (by omega)
      have h5b : l5 ≤ 100 := two_used (j := 151 + 150) hT5 (Nat.lt_of_le_of_lt (Nat.div_le_self _ _) (mul_two (pow_in (j := 151) L0.out.2 (by omega)) L1.out.2)) (by omega)
      have h5c := pow_up (j := 1000) (Nat.lt_of_le_of_lt (Nat.div_le_self Z1.natAbs (Nat.gcd Z1.natAbs (Q0 * Q1))) hlt) (by omega)
      have HQQ := hide (And.intro hqq (And.intro hsx hsn))
      clear hZ hsx hsn hlt hqq hZ1
      refine ⟨_, rfl, hS5, ?_⟩
      simp only [Act.put, List.setIfInBounds_toArray, List.set_cons_zero, List.set_cons_succ]
      cases g0 with
      | true =>
        refine held_valW 7 (some 22) rfl rfl (by kernel_rfl) [8, 9] (by kernel_rfl) (by kernel_rfl) noPanic_put rfl (.bool true) (fun _ _ => by go_simp) hS5 ?_
        simp only [Act.put, List.setIfInBounds_toArray, List.set_cons_zero, List.set_cons_succ]
        refine held_val 8 (some 23) rfl rfl (by kernel_rfl) (by kernel_rfl) (by kernel_rfl) noPanic_put rfl (.pointer (some ⟨w.heap.size + 1, 0, none⟩)) (fun _ => by go_simp) hS5 ?_
        simp only [Act.put, List.setIfInBounds_toArray, List.set_cons_zero, List.set_cons_succ]
        refine held_valS 9 (some 24) rfl rfl (by kernel_rfl) (by kernel_rfl) (by kernel_rfl) noPanic_put rfl (.bool g1) (fun _ h => BL.run_cell1 _ 4 rfl ⟨w.heap.size + 1, 0, none⟩ rfl (.bool g1) Try.underlying4 rfl (by rw [cell_of_row _ _ _ _ _ _ h.2]; rfl)) hS5 ?_
        simp only [Act.put, List.setIfInBounds_toArray, List.set_cons_zero, List.set_cons_succ]
        refine held_val 10 (some 25) rfl rfl (by kernel_rfl) (by kernel_rfl) (by kernel_rfl) noPanic_put rfl (.bool g1) (fun _ => by go_simp) hS5 ?_
        simp only [Act.put, List.setIfInBounds_toArray, List.set_cons_zero, List.set_cons_succ]
        refine held_call 11 (some 26) (by kernel_rfl) rfl rfl rfl 35 #[.agg (numC (decide (Z1 < 0)) i5 r5 l5 s5), .bool g1] (by go_simp) _ (real_any (decide (Z1 < 0)) g1 w5 hR5 hT5 h5a h5b h5c (Nat.ne_of_gt (low_pos HQQ.out.1))) ?_
        rintro ed w6 ⟨⟨R, rfl, hR⟩, hW6⟩
        have hs6 : w5.heap.size ≤ w6.heap.size := hW6.size
        have hS6 : RowAt w6 (w.heap.size) 25 #[.bool true, .int .i64 m0, .int .i64 e0] ∧ RowAt w6 (w.heap.size + 1) 25 #[.bool g1, .int .i64 m1, .int .i64 e1] := ⟨RowAt.below hS5.1 hW6 (by omega), RowAt.below hS5.2 hW6 (by omega)⟩
        have C6 := RowAt.below (RowAt.below (RowAt.below (RowAt.below (w := w2.drew) C2 hW3 (by show _ < w2.heap.size; omega)) hW4 (by omega)) hW5 (by omega)) hW6 (by omega)
        have hB6 : Below w.heap.size w w6 := (((hB2.drew.trans (hW3.mono (by show _ ≤ w2.heap.size; omega))).trans (hW4.mono (by omega))).trans (hW5.mono (by omega))).trans (hW6.mono (by omega))
        have hsg : (decide (Z1 < 0) || (decide (Z1.natAbs / Nat.gcd Z1.natAbs (Q0 * Q1) = 0) && g1)) = neg := by
          rw [HND.out.1]
          unfold sumNeg
          have eq1 : (Z1.natAbs / Nat.gcd Z1.natAbs (Q0 * Q1) = 0) ↔ Z1 = 0 := ⟨fun h => Classical.byContradiction fun hn => low_ne (fun h' => hn (Int.natAbs_eq_zero.1 h')) h, fun h => by rw [h]; simp⟩
          simp [HQQ.out.2.2.1, eq1, HQQ.out.2.2.2]
        rw [hsg]
        have HA : Hid (AnsS (true && true) neg NN DD (.returned (.tuple #[.agg #[.bool neg, .int .i64 (manOf R : Nat), .int .i64 (expOf R)], .bool true]))) := by
          refine .inr ⟨HFT.out, R, ?_, rfl⟩
          rw [HND.out.2.1, HND.out.2.2]
          exact (Near.low hR HQQ.out.1).move (Nat.pos_of_ne_zero HQQ.out.1) (Nat.mul_pos (Nat.pos_of_ne_zero (vD_ne e0)) (Nat.pos_of_ne_zero (vD_ne e1))) HQQ.out.2.1
        refine ⟨_, rfl, hS6, ?_⟩
        simp only [Act.put, List.setIfInBounds_toArray, List.set_cons_zero, List.set_cons_succ]
        refine held_store_real 12 (by kernel_rfl) rfl rfl _ _ rfl rfl (w.heap.size + 1 + 1) neg (manOf R : Nat) (expOf R) rfl rfl false 0 0 C6 ?_
        intro w7 hR7 hg7 hs7
        have hS7 : RowAt w7 (w.heap.size) 25 #[.bool true, .int .i64 m0, .int .i64 e0] ∧ RowAt w7 (w.heap.size + 1) 25 #[.bool g1, .int .i64 m1, .int .i64 e1] := ⟨RowAt.grown hS6.1 hg7 (by simp; omega), RowAt.grown hS6.2 hg7 (by simp)⟩
        refine ⟨hS7, ?_⟩
        refine held_assign 13 (some 5) (by kernel_rfl) rfl rfl _ rfl rfl (.bool true) rfl hS7 ?_
        simp only [Act.put, List.setIfInBounds_toArray, List.set_cons_zero, List.set_cons_succ]
        refine wpAnyH_done (by kernel_rfl) ?_ _
        refine NoPanic.normal ?_
        go_wp2
        exact bodyPost_ret (res_real_tmp Try.results22 _ _ (w.heap.size + 1 + 1) _ _ _ _ rfl rfl hR7) rfl ⟨HA.out, hB6.grown hg7 hB6.size (by intro k hk; cases hk; omega)⟩
      | false =>
        refine held_valW 7 (some 22) rfl rfl (by kernel_rfl) [8, 9] (by kernel_rfl) (by kernel_rfl) noPanic_put rfl (.bool false) (fun _ _ => by go_simp) hS5 ?_
        simp only [Act.put, List.setIfInBounds_toArray, List.set_cons_zero, List.set_cons_succ]
        refine held_skip 8 (some 23) rfl rfl (by kernel_rfl) (by kernel_rfl) (by kernel_rfl) noPanic_put rfl hS5 ?_
        simp only [Act.put, List.setIfInBounds_toArray, List.set_cons_zero, List.set_cons_succ]
        refine held_skip 9 (some 24) rfl rfl (by kernel_rfl) (by kernel_rfl) (by kernel_rfl) noPanic_put rfl hS5 ?_
        simp only [Act.put, List.setIfInBounds_toArray, List.set_cons_zero, List.set_cons_succ]
        refine held_val 10 (some 25) rfl rfl (by kernel_rfl) (by kernel_rfl) (by kernel_rfl) noPanic_put rfl (.bool false) (fun _ => by go_simp) hS5 ?_
        simp only [Act.put, List.setIfInBounds_toArray, List.set_cons_zero, List.set_cons_succ]
        refine held_call 11 (some 26) (by kernel_rfl) rfl rfl rfl 35 #[.agg (numC (decide (Z1 < 0)) i5 r5 l5 s5), .bool false] (by go_simp) _ (real_any (decide (Z1 < 0)) false w5 hR5 hT5 h5a h5b h5c (Nat.ne_of_gt (low_pos HQQ.out.1))) ?_
        rintro ed w6 ⟨⟨R, rfl, hR⟩, hW6⟩
        have hs6 : w5.heap.size ≤ w6.heap.size := hW6.size
        have hS6 : RowAt w6 (w.heap.size) 25 #[.bool false, .int .i64 m0, .int .i64 e0] ∧ RowAt w6 (w.heap.size + 1) 25 #[.bool g1, .int .i64 m1, .int .i64 e1] := ⟨RowAt.below hS5.1 hW6 (by omega), RowAt.below hS5.2 hW6 (by omega)⟩
        have C6 := RowAt.below (RowAt.below (RowAt.below (RowAt.below (w := w2.drew) C2 hW3 (by show _ < w2.heap.size; omega)) hW4 (by omega)) hW5 (by omega)) hW6 (by omega)
        have hB6 : Below w.heap.size w w6 := (((hB2.drew.trans (hW3.mono (by show _ ≤ w2.heap.size; omega))).trans (hW4.mono (by omega))).trans (hW5.mono (by omega))).trans (hW6.mono (by omega))
        have hsg : (decide (Z1 < 0) || (decide (Z1.natAbs / Nat.gcd Z1.natAbs (Q0 * Q1) = 0) && false)) = neg := by
          rw [HND.out.1]
          unfold sumNeg
          have eq1 : (Z1.natAbs / Nat.gcd Z1.natAbs (Q0 * Q1) = 0) ↔ Z1 = 0 := ⟨fun h => Classical.byContradiction fun hn => low_ne (fun h' => hn (Int.natAbs_eq_zero.1 h')) h, fun h => by rw [h]; simp⟩
          simp [HQQ.out.2.2.1, eq1, HQQ.out.2.2.2]
        rw [hsg]
        have HA : Hid (AnsS (true && true) neg NN DD (.returned (.tuple #[.agg #[.bool neg, .int .i64 (manOf R : Nat), .int .i64 (expOf R)], .bool true]))) := by
          refine .inr ⟨HFT.out, R, ?_, rfl⟩
          rw [HND.out.2.1, HND.out.2.2]
          exact (Near.low hR HQQ.out.1).move (Nat.pos_of_ne_zero HQQ.out.1) (Nat.mul_pos (Nat.pos_of_ne_zero (vD_ne e0)) (Nat.pos_of_ne_zero (vD_ne e1))) HQQ.out.2.1
        refine ⟨_, rfl, hS6, ?_⟩
        simp only [Act.put, List.setIfInBounds_toArray, List.set_cons_zero, List.set_cons_succ]
        refine held_store_real 12 (by kernel_rfl) rfl rfl _ _ rfl rfl (w.heap.size + 1 + 1) neg (manOf R : Nat) (expOf R) rfl rfl false 0 0 C6 ?_
        intro w7 hR7 hg7 hs7
        have hS7 : RowAt w7 (w.heap.size) 25 #[.bool false, .int .i64 m0, .int .i64 e0] ∧ RowAt w7 (w.heap.size + 1) 25 #[.bool g1, .int .i64 m1, .int .i64 e1] := ⟨RowAt.grown hS6.1 hg7 (by simp; omega), RowAt.grown hS6.2 hg7 (by simp)⟩
        refine ⟨hS7, ?_⟩
        refine held_assign 13 (some 5) (by kernel_rfl) rfl rfl _ rfl rfl (.bool true) rfl hS7 ?_
        simp only [Act.put, List.setIfInBounds_toArray, List.set_cons_zero, List.set_cons_succ]
        refine wpAnyH_done (by kernel_rfl) ?_ _
        refine NoPanic.normal ?_
        go_wp2
        exact bodyPost_ret (res_real_tmp Try.results22 _ _ (w.heap.size + 1 + 1) _ _ _ _ rfl rfl hR7) rfl ⟨HA.out, hB6.grown hg7 hB6.size (by intro k hk; cases hk; omega)⟩

set_option maxHeartbeats 8000000 in
set_option maxRecDepth 100000 in
theorem implSubReal_any (g0 : Bool) (m0 e0 : Int) (g1 : Bool) (m1 e1 : Int) (w : World) :
    Calls Try.prog 24 #[.agg #[.bool g0, .int .i64 m0, .int .i64 e0], .agg #[.bool g1, .int .i64 m1, .int .i64 e1]] w fun e' w' => AnsS (finB m0 e0 && finB m1 e1) (sumNeg (sumZ g0 (vN m0.toNat e0) (vD e0) (!g1) (vN m1.toNat e1) (vD e1)) g0 (!g1)) (sumZ g0 (vN m0.toNat e0) (vD e0) (!g1) (vN m1.toNat e1) (vD e1)).natAbs (vD e0 * vD e1) e' ∧ Below w.heap.size w w' := by
  have hz := zero_real.1
  have A : RowAt (((w.alloc (.cells #[.bool g0, .int .i64 m0, .int .i64 e0] 25)).alloc (.cells #[.bool g1, .int .i64 m1, .int .i64 e1] 25)).alloc (.cells #[.bool false, .int .i64 0, .int .i64 0] 25)) w.heap.size 25 #[.bool g0, .int .i64 m0, .int .i64 e0] := RowAt.old (RowAt.old (RowAt.new w 25 #[.bool g0, .int .i64 m0, .int .i64 e0]) _) _
  have B : RowAt (((w.alloc (.cells #[.bool g0, .int .i64 m0, .int .i64 e0] 25)).alloc (.cells #[.bool g1, .int .i64 m1, .int .i64 e1] 25)).alloc (.cells #[.bool false, .int .i64 0, .int .i64 0] 25)) (w.heap.size + 1) 25 #[.bool g1, .int .i64 m1, .int .i64 e1] := by
    have h := RowAt.new (w.alloc (.cells #[.bool g0, .int .i64 m0, .int .i64 e0] 25)) 25 #[.bool g1, .int .i64 m1, .int .i64 e1]
    rw [World.size_alloc] at h
    exact RowAt.old h _
  have C : RowAt (((w.alloc (.cells #[.bool g0, .int .i64 m0, .int .i64 e0] 25)).alloc (.cells #[.bool g1, .int .i64 m1, .int .i64 e1] 25)).alloc (.cells #[.bool false, .int .i64 0, .int .i64 0] 25)) (w.heap.size + 1 + 1) 25 #[.bool false, .int .i64 0, .int .i64 0] := by
    have h := RowAt.new ((w.alloc (.cells #[.bool g0, .int .i64 m0, .int .i64 e0] 25)).alloc (.cells #[.bool g1, .int .i64 m1, .int .i64 e1] 25)) 25 #[.bool false, .int .i64 0, .int .i64 0]
    simp only [World.size_alloc] at h
    exact h
  have hB : Below w.heap.size w (((w.alloc (.cells #[.bool g0, .int .i64 m0, .int .i64 e0] 25)).alloc (.cells #[.bool g1, .int .i64 m1, .int .i64 e1] 25)).alloc (.cells #[.bool false, .int .i64 0, .int .i64 0] 25)) := (((Below.refl _ _).alloc (Nat.le_refl _) _).alloc (by simp) _).alloc (by simp; omega) _
  have hws : (((w.alloc (.cells #[.bool g0, .int .i64 m0, .int .i64 e0] 25)).alloc (.cells #[.bool g1, .int .i64 m1, .int .i64 e1] 25)).alloc (.cells #[.bool false, .int .i64 0, .int .i64 0] 25)).heap.size = w.heap.size + 1 + 1 + 1 := by simp
  have HF0 := hide (fun w' => isFinite_any g0 m0 e0 w')
  have HF1 := hide (fun w' => isFinite_any g1 m1 e1 w')
  obtain ⟨f0, hf0⟩ : ∃ f, f = finB m0 e0 := ⟨_, rfl⟩
  obtain ⟨f1, hf1⟩ : ∃ f, f = finB m1 e1 := ⟨_, rfl⟩
  rw [← hf0] at HF0 ⊢
  rw [← hf1] at HF1 ⊢
  have HH := hide (And.intro hf0 hf1)
  obtain ⟨neg, hneg⟩ : ∃ x, x = (sumNeg (sumZ g0 (vN m0.toNat e0) (vD e0) (!g1) (vN m1.toNat e1) (vD e1)) g0 (!g1)) := ⟨_, rfl⟩
  obtain ⟨NN, hNN⟩ : ∃ x, x = (sumZ g0 (vN m0.toNat e0) (vD e0) (!g1) (vN m1.toNat e1) (vD e1)).natAbs := ⟨_, rfl⟩
  obtain ⟨DD, hDD⟩ : ∃ x, x = (vD e0 * vD e1) := ⟨_, rfl⟩
  rw [← hneg, ← hNN, ← hDD]
  have HND := hide (And.intro hneg (And.intro hNN hDD))
  clear hf0 hf1 hneg hNN hDD
  go_enter Try.func24, Try.ntmps24
  generalize hw0 : ((w.alloc (.cells #[.bool g0, .int .i64 m0, .int .i64 e0] 25)).alloc (.cells #[.bool g1, .int .i64 m1, .int .i64 e1] 25)).alloc (.cells #[.bool false, .int .i64 0, .int .i64 0] 25) = w0 at A B C hB hws
  go_wp2_with (with_reducible refine wpList_idO ?_; refine load_realU rfl _ rfl w.heap.size rfl g0 m0 e0 A ?_)
  refine (HF0.out w0).mono ?_
  rintro e w1 ⟨rfl, hW1⟩
  have hs1 := hW1.size
  have A1 := RowAt.below A hW1 (by omega)
  have B1 := RowAt.below B hW1 (by omega)
  have C1 := RowAt.below C hW1 (by omega)
  have hB1 : Below w.heap.size w w1 := hB.trans (hW1.mono (by omega))
  clear hw0 A B C hB hW1
  cases f0 with
  | false =>
    have HA : Hid (AnsS (false && f1) neg NN DD (.returned (.tuple #[.agg #[.bool false, .int .i64 0, .int .i64 0], .bool false]))) := .inl ⟨by simp, rfl⟩
    go_wp2_with (with_reducible refine wpList_idO ?_; refine store_3 rfl 25 _ _ rfl rfl zero_real.2 (w.heap.size + 1 + 1) _ rfl (real_one _ _ _) rfl rfl _ rfl C1 ?_; intro w2 hR2 hg2 hs2)
    exact bodyPost_ret (res_real_tmp Try.results24 _ _ (w.heap.size + 1 + 1) _ _ _ _ rfl rfl hR2) rfl ⟨HA.out, hB1.grown hg2 hB1.size (by intro k hk; cases hk; omega)⟩
  | true =>
    have c10 : w1.cell? ⟨w.heap.size + 1, 0, none⟩ = some (.bool g1) := by rw [cell_of_row _ _ _ _ _ _ B1]; rfl
    have c11 : w1.cell? ⟨w.heap.size + 1, 1, none⟩ = some (.int .i64 m1) := by rw [cell_of_row _ _ _ _ _ _ B1]; rfl
    have c12 : w1.cell? ⟨w.heap.size + 1, 2, none⟩ = some (.int .i64 e1) := by rw [cell_of_row _ _ _ _ _ _ B1]; rfl
    go_wp2_with fail
    refine (HF1.out w1).mono ?_
    rintro e w2 ⟨rfl, hW2⟩
    have hs2 := hW2.size
    have A2 := RowAt.below A1 hW2 (by omega)
    have B2 := RowAt.below B1 hW2 (by omega)
    have C2 := RowAt.below C1 hW2 (by omega)
    have hB2 : Below w.heap.size w w2 := hB1.trans (hW2.mono (by omega))
    have hs2' : w.heap.size + 1 + 1 + 1 ≤ w2.heap.size := by omega
    clear A1 B1 C1 hB1 hW2 c10 c11 c12 hs1 hs2
    cases f1 with
    | false =>
      have HA : Hid (AnsS (true && false) neg NN DD (.returned (.tuple #[.agg #[.bool false, .int .i64 0, .int .i64 0], .bool false]))) := .inl ⟨by simp, rfl⟩
      go_wp2_with (with_reducible refine wpList_idO ?_; refine store_3 rfl 25 _ _ rfl rfl zero_real.2 (w.heap.size + 1 + 1) _ rfl (real_one _ _ _) rfl rfl _ rfl C2 ?_; intro w3 hR3 hg3 hs3)
      exact bodyPost_ret (res_real_tmp Try.results24 _ _ (w.heap.size + 1 + 1) _ _ _ _ rfl rfl hR3) rfl ⟨HA.out, hB2.grown hg3 hB2.size (by intro k hk; cases hk; omega)⟩
    | true =>
      obtain ⟨n0, hn0, hF0⟩ := (finB_iff m0 e0).1 HH.out.1.symm
      obtain ⟨n1, hn1, hF1⟩ := (finB_iff m1 e1).1 HH.out.2.symm
      have ht0 : m0.toNat = n0 := by omega
      have ht1 : m1.toNat = n1 := by omega
      rw [ht0, ht1] at HND
      have HFT : Hid ((true && true) = true) := rfl
      have HN0 := hide (And.intro hn0 hF0)
      have HNN1 := hide (And.intro hn1 hF1)
      have L0 := hide (low_lt hF0)
      have L1 := hide (low_lt hF1)
      clear hn0 hn1 hF0 hF1 ht0 ht1
      go_wp2_with fail
      refine held_begin (fun w' => RowAt w' (w.heap.size) 25 #[.bool g0, .int .i64 m0, .int .i64 e0] ∧ RowAt w' (w.heap.size + 1) 25 #[.bool g1, .int .i64 m1, .int .i64 e1]) (by kernel_rfl) ?_
      have hS : RowAt w2.drew (w.heap.size) 25 #[.bool g0, .int .i64 m0, .int .i64 e0] ∧ RowAt w2.drew (w.heap.size + 1) 25 #[.bool g1, .int .i64 m1, .int .i64 e1] := ⟨A2, B2⟩
      refine held_valS 0 (some 15) rfl rfl (by kernel_rfl) (by kernel_rfl) (by kernel_rfl) noPanic_put rfl (.agg #[.bool g0, .int .i64 m0, .int .i64 e0]) (fun _ h => run_loadReal _ rfl (w.heap.size) rfl g0 m0 e0 h.1) hS ?_
      simp only [Act.put, List.setIfInBounds_toArray, List.set_cons_zero, List.set_cons_succ]
      refine held_valS 2 (some 17) rfl rfl (by kernel_rfl) (by kernel_rfl) (by kernel_rfl) noPanic_put rfl (.agg #[.bool g1, .int .i64 m1, .int .i64 e1]) (fun _ h => run_loadReal _ rfl (w.heap.size + 1) rfl g1 m1 e1 h.2) hS ?_
      simp only [Act.put, List.setIfInBounds_toArray, List.set_cons_zero, List.set_cons_succ]
      refine held_val 5 (some 20) rfl rfl (by kernel_rfl) (by kernel_rfl) (by kernel_rfl) noPanic_put rfl (.pointer (some ⟨w.heap.size, 0, none⟩)) (fun _ => by go_simp) hS ?_
      simp only [Act.put, List.setIfInBounds_toArray, List.set_cons_zero, List.set_cons_succ]
      refine held_valS 6 (some 21) rfl rfl (by kernel_rfl) (by kernel_rfl) (by kernel_rfl) noPanic_put rfl (.bool g0) (fun _ h => BL.run_cell1 _ 4 rfl ⟨w.heap.size, 0, none⟩ rfl (.bool g0) Try.underlying4 rfl (by rw [cell_of_row _ _ _ _ _ _ h.1]; rfl)) hS ?_
      simp only [Act.put, List.setIfInBounds_toArray, List.set_cons_zero, List.set_cons_succ]
      refine held_call 1 (some 16) (by kernel_rfl) rfl rfl rfl 42 #[.agg #[.bool g0, .int .i64 m0, .int .i64 e0]] (by go_simp) _ (rnum_any g0 m0 e0 w2.drew HN0.out.1 HN0.out.2) ?_
      rintro ea w3 ⟨⟨v3, rfl, i0, l0, r0, s0, rfl, hP0, hQ0⟩, hW3⟩
      have hs3 : w2.heap.size ≤ w3.heap.size := hW3.size
      have hS3 : RowAt w3 (w.heap.size) 25 #[.bool g0, .int .i64 m0, .int .i64 e0] ∧ RowAt w3 (w.heap.size + 1) 25 #[.bool g1, .int .i64 m1, .int .i64 e1] := ⟨RowAt.below hS.1 hW3 (by show _ < w2.heap.size; omega), RowAt.below hS.2 hW3 (by show _ < w2.heap.size; omega)⟩
      refine ⟨_, rfl, hS3, ?_⟩
      simp only [Act.put, List.setIfInBounds_toArray, List.set_cons_zero, List.set_cons_succ]
      refine held_call 3 (some 18) (by kernel_rfl) rfl rfl rfl 42 #[.agg #[.bool g1, .int .i64 m1, .int .i64 e1]] (by go_simp) _ (rnum_any g1 m1 e1 w3 HNN1.out.1 HNN1.out.2) ?_
      rintro eb w4 ⟨⟨v4, rfl, i1, l1, r1, s1, rfl, hP1, hQ1⟩, hW4⟩
      have hs4 : w3.heap.size ≤ w4.heap.size := hW4.size
      have hS4 : RowAt w4 (w.heap.size) 25 #[.bool g0, .int .i64 m0, .int .i64 e0] ∧ RowAt w4 (w.heap.size + 1) 25 #[.bool g1, .int .i64 m1, .int .i64 e1] := ⟨RowAt.below hS3.1 hW4 (by omega), RowAt.below hS3.2 hW4 (by omega)⟩
      have hi0 := two_used hP0 L0.out.1 (by omega)
      have hl0 := two_used hQ0 (pow_in (j := 151) L0.out.2 (by omega)) (by omega)
      have hi1 := two_used hP1 L1.out.1 (by omega)
      have hl1 := two_used hQ1 (pow_in (j := 151) L1.out.2 (by omega)) (by omega)
      have q0 : vD e0 / Nat.gcd (vN n0 e0) (vD e0) ≠ 0 := Nat.ne_of_gt (low_pos (vD_ne e0))
      have q1 : vD e1 / Nat.gcd (vN n1 e1) (vD e1) ≠ 0 := Nat.ne_of_gt (low_pos (vD_ne e1))
      have x0 := low_cross (x := vN n0 e0) (y := vD e0)
      have x1 := low_cross (x := vN n1 e1) (y := vD e1)
      have gc0 := low_gcd (x := vN n0 e0) (vD_ne e0)
      have gc1 := low_gcd (x := vN n1 e1) (vD_ne e1)
      obtain ⟨P0, hP0e⟩ : ∃ x, x = vN n0 e0 / Nat.gcd (vN n0 e0) (vD e0) := ⟨_, rfl⟩
      obtain ⟨Q0, hQ0e⟩ : ∃ x, x = vD e0 / Nat.gcd (vN n0 e0) (vD e0) := ⟨_, rfl⟩
      obtain ⟨P1, hP1e⟩ : ∃ x, x = vN n1 e1 / Nat.gcd (vN n1 e1) (vD e1) := ⟨_, rfl⟩
      obtain ⟨Q1, hQ1e⟩ : ∃ x, x = vD e1 / Nat.gcd (vN n1 e1) (vD e1) := ⟨_, rfl⟩
      have z0 : n0 = 0 ↔ P0 = 0 := ⟨fun h => by rw [hP0e, vN_zero.2 h, Nat.zero_div], fun h => Classical.byContradiction fun hn => low_ne (fun h' => hn (vN_zero.1 h')) (hP0e.symm.trans h)⟩
      have z1 : n1 = 0 ↔ P1 = 0 := ⟨fun h => by rw [hP1e, vN_zero.2 h, Nat.zero_div], fun h => Classical.byContradiction fun hn => low_ne (fun h' => hn (vN_zero.1 h')) (hP1e.symm.trans h)⟩
      rw [← hP0e] at hP0 x0 gc0 L0
      rw [← hQ0e] at hQ0 x0 gc0 q0 L0
      rw [← hP1e] at hP1 x1 gc1 L1
      rw [← hQ1e] at hQ1 x1 gc1 q1 L1
      have HX := hide (And.intro x0 x1)
      have HZZ := hide (And.intro z0 z1)
      clear x0 x1 z0 z1 hP0e hQ0e hP1e hQ1e
      refine ⟨_, rfl, hS4, ?_⟩
      simp only [Act.put, List.setIfInBounds_toArray, List.set_cons_zero, List.set_cons_succ]
      refine held_call 4 (some 19) (by kernel_rfl) rfl rfl rfl 44 #[.agg (numC (g0 && decide (n0 ≠ 0)) i0 r0 l0 s0), .agg (numC (g1 && decide (n1 ≠ 0)) i1 r1 l1 s1)] (by go_simp) _ (numMinus_any (g0 && decide (n0 ≠ 0)) (g1 && decide (n1 ≠ 0)) w4 hP0 hQ0 hP1 hQ1 hi0 hl0 hi1 hl1 (low_sign _ HZZ.out.1) q0 q1 gc0 gc1) ?_
      rintro ec w5 ⟨⟨i5, l5, r5, s5, rfl, hR5, hT5⟩, hW5⟩
      have hs5 : w4.heap.size ≤ w5.heap.size := hW5.size
      have hS5 : RowAt w5 (w.heap.size) 25 #[.bool g0, .int .i64 m0, .int .i64 e0] ∧ RowAt w5 (w.heap.size + 1) 25 #[.bool g1, .int .i64 m1, .int .i64 e1] := ⟨RowAt.below hS4.1 hW5 (by omega), RowAt.below hS4.2 hW5 (by omega)⟩
      have hZ : topZ (g0 && decide (n0 ≠ 0)) P0 Q0 (!(g1 && decide (n1 ≠ 0)) && decide (0 < i1)) P1 Q1 = sumZ g0 P0 Q0 (!g1) P1 Q1 := by
        rw [topZ_sum]
        have hG : sg (!(g1 && decide (n1 ≠ 0)) && decide (0 < i1)) P1 = sg (!g1) P1 := by
          rw [used_pos hP1]
          by_cases hp : P1 = 0
          · rw [hp]; unfold sg; simp
          · have hn : n1 ≠ 0 := fun h => hp (HZZ.out.2.1 h)
            simp [hp, hn]
        unfold sumZ
        rw [sg_drop g0 HZZ.out.1.1, hG]
      rw [hZ] at hR5 hT5 ⊢
      have hsx := sum_abs g0 (!g1) HX.out.1 HX.out.2
      have hsn := sum_sign g0 (!g1) HX.out.1 HX.out.2 (vD_ne e0) (vD_ne e1) q0 q1
      have hlt := sum_lt (g := g0) (g' := (!g1)) L0.out.1 L0.out.2 L1.out.1 L1.out.2
      obtain ⟨Z1, hZ1⟩ : ∃ x, x = sumZ g0 P0 Q0 (!g1) P1 Q1 := ⟨_, rfl⟩
      rw [← hZ1] at hR5 hT5 hsx hsn hlt ⊢
      have hqq : Q0 * Q1 ≠ 0 := Nat.mul_ne_zero q0 q1
      have h5a : i5 ≤ 100 := two_used hR5 (Nat.lt_of_le_of_lt (Nat.div_le_self _ _) hlt) (by omega)
      have h5b : l5 ≤ 100 := two_used (j := 151 + 150) hT5 (Nat.lt_of_le_of_lt (Nat.div_le_self _ _) (mul_two (pow_in (j := 151) L0.out.2 (by omega)) L1.out.2)) (by omega)
      have h5c := pow_up (j := 1000) (Nat.lt_of_le_of_lt (Nat.div_le_self Z1.natAbs (Nat.gcd Z1.natAbs (Q0 * Q1))) hlt) (by omega)
      have HQQ := hide (And.intro hqq (And.intro hsx hsn))
      clear hZ hsx hsn hlt hqq hZ1
      refine ⟨_, rfl, hS5, ?_⟩
      simp only [Act.put, List.setIfInBounds_toArray, List.set_cons_zero, List.set_cons_succ]
      cases g0 with
      | true =>
        refine held_valW 7 (some 22) rfl rfl (by kernel_rfl) [8, 9, 10] (by kernel_rfl) (by kernel_rfl) noPanic_put rfl (.bool true) (fun _ _ => by go_simp) hS5 ?_
        simp only [Act.put, List.setIfInBounds_toArray, List.set_cons_zero, List.set_cons_succ]
        refine held_val 8 (some 23) rfl rfl (by kernel_rfl) (by kernel_rfl) (by kernel_rfl) noPanic_put rfl (.pointer (some ⟨w.heap.size + 1, 0, none⟩)) (fun _ => by go_simp) hS5 ?_
        simp only [Act.put, List.setIfInBounds_toArray, List.set_cons_zero, List.set_cons_succ]
        refine held_valS 9 (some 24) rfl rfl (by kernel_rfl) (by kernel_rfl) (by kernel_rfl) noPanic_put rfl (.bool g1) (fun _ h => BL.run_cell1 _ 4 rfl ⟨w.heap.size + 1, 0, none⟩ rfl (.bool g1) Try.underlying4 rfl (by rw [cell_of_row _ _ _ _ _ _ h.2]; rfl)) hS5 ?_
        simp only [Act.put, List.setIfInBounds_toArray, List.set_cons_zero, List.set_cons_succ]
        refine held_val 10 (some 25) rfl rfl (by kernel_rfl) (by kernel_rfl) (by kernel_rfl) noPanic_put rfl (.bool (!g1)) (fun _ => by go_simp) hS5 ?_
        simp only [Act.put, List.setIfInBounds_toArray, List.set_cons_zero, List.set_cons_succ]
        refine held_val 11 (some 26) rfl rfl (by kernel_rfl) (by kernel_rfl) (by kernel_rfl) noPanic_put rfl (.bool (!g1)) (fun _ => by go_simp) hS5 ?_
        simp only [Act.put, List.setIfInBounds_toArray, List.set_cons_zero, List.set_cons_succ]
        refine held_call 12 (some 27) (by kernel_rfl) rfl rfl rfl 35 #[.agg (numC (decide (Z1 < 0)) i5 r5 l5 s5), .bool (!g1)] (by go_simp) _ (real_any (decide (Z1 < 0)) (!g1) w5 hR5 hT5 h5a h5b h5c (Nat.ne_of_gt (low_pos HQQ.out.1))) ?_
        rintro ed w6 ⟨⟨R, rfl, hR⟩, hW6⟩
        have hs6 : w5.heap.size ≤ w6.heap.size := hW6.size
        have hS6 : RowAt w6 (w.heap.size) 25 #[.bool true, .int .i64 m0, .int .i64 e0] ∧ RowAt w6 (w.heap.size + 1) 25 #[.bool g1, .int .i64 m1, .int .i64 e1] := ⟨RowAt.below hS5.1 hW6 (by omega), RowAt.below hS5.2 hW6 (by omega)⟩
        have C6 := RowAt.below (RowAt.below (RowAt.below (RowAt.below (w := w2.drew) C2 hW3 (by show _ < w2.heap.size; omega)) hW4 (by omega)) hW5 (by omega)) hW6 (by omega)
        have hB6 : Below w.heap.size w w6 := (((hB2.drew.trans (hW3.mono (by show _ ≤ w2.heap.size; omega))).trans (hW4.mono (by omega))).trans (hW5.mono (by omega))).trans (hW6.mono (by omega))
        have hsg : (decide (Z1 < 0) || (decide (Z1.natAbs / Nat.gcd Z1.natAbs (Q0 * Q1) = 0) && (!g1))) = neg := by
          rw [HND.out.1]
          unfold sumNeg
          have eq1 : (Z1.natAbs / Nat.gcd Z1.natAbs (Q0 * Q1) = 0) ↔ Z1 = 0 := ⟨fun h => Classical.byContradiction fun hn => low_ne (fun h' => hn (Int.natAbs_eq_zero.1 h')) h, fun h => by rw [h]; simp⟩
          simp [HQQ.out.2.2.1, eq1, HQQ.out.2.2.2]
        rw [hsg]
        have HA : Hid (AnsS (true && true) neg NN DD (.returned (.tuple #[.agg #[.bool neg, .int .i64 (manOf R : Nat), .int .i64 (expOf R)], .bool true]))) := by
          refine .inr ⟨HFT.out, R, ?_, rfl⟩
          rw [HND.out.2.1, HND.out.2.2]
          exact (Near.low hR HQQ.out.1).move (Nat.pos_of_ne_zero HQQ.out.1) (Nat.mul_pos (Nat.pos_of_ne_zero (vD_ne e0)) (Nat.pos_of_ne_zero (vD_ne e1))) HQQ.out.2.1
        refine ⟨_, rfl, hS6, ?_⟩
        simp only [Act.put, List.setIfInBounds_toArray, List.set_cons_zero, List.set_cons_succ]
        refine held_store_real 13 (by kernel_rfl) rfl rfl _ _ rfl rfl (w.heap.size + 1 + 1) neg (manOf R : Nat) (expOf R) rfl rfl false 0 0 C6 ?_
        intro w7 hR7 hg7 hs7
        have hS7 : RowAt w7 (w.heap.size) 25 #[.bool true, .int .i64 m0, .int .i64 e0] ∧ RowAt w7 (w.heap.size + 1) 25 #[.bool g1, .int .i64 m1, .int .i64 e1] := ⟨RowAt.grown hS6.1 hg7 (by simp; omega), RowAt.grown hS6.2 hg7 (by simp)⟩
        refine ⟨hS7, ?_⟩
        refine held_assign 14 (some 5) (by kernel_rfl) rfl rfl _ rfl rfl (.bool true) rfl hS7 ?_
        simp only [Act.put, List.setIfInBounds_toArray, List.set_cons_zero, List.set_cons_succ]
        refine wpAnyH_done (by kernel_rfl) ?_ _
        refine NoPanic.normal ?_
        go_wp2
        exact bodyPost_ret (res_real_tmp Try.results24 _ _ (w.heap.size + 1 + 1) _ _ _ _ rfl rfl hR7) rfl ⟨HA.out, hB6.grown hg7 hB6.size (by intro k hk; cases hk; omega)⟩
      | false =>
        refine held_valW 7 (some 22) rfl rfl (by kernel_rfl) [8, 9, 10] (by kernel_rfl) (by kernel_rfl) noPanic_put rfl (.bool false) (fun _ _ => by go_simp) hS5 ?_
        simp only [Act.put, List.setIfInBounds_toArray, List.set_cons_zero, List.set_cons_succ]
        refine held_skip 8 (some 23) rfl rfl (by kernel_rfl) (by kernel_rfl) (by kernel_rfl) noPanic_put rfl hS5 ?_
        simp only [Act.put, List.setIfInBounds_toArray, List.set_cons_zero, List.set_cons_succ]
        refine held_skip 9 (some 24) rfl rfl (by kernel_rfl) (by kernel_rfl) (by kernel_rfl) noPanic_put rfl hS5 ?_
        simp only [Act.put, List.setIfInBounds_toArray, List.set_cons_zero, List.set_cons_succ]
        refine held_skip 10 (some 25) rfl rfl (by kernel_rfl) (by kernel_rfl) (by kernel_rfl) noPanic_put rfl hS5 ?_
        simp only [Act.put, List.setIfInBounds_toArray, List.set_cons_zero, List.set_cons_succ]
        refine held_val 11 (some 26) rfl rfl (by kernel_rfl) (by kernel_rfl) (by kernel_rfl) noPanic_put rfl (.bool false) (fun _ => by go_simp) hS5 ?_
        simp only [Act.put, List.setIfInBounds_toArray, List.set_cons_zero, List.set_cons_succ]
        refine held_call 12 (some 27) (by kernel_rfl) rfl rfl rfl 35 #[.agg (numC (decide (Z1 < 0)) i5 r5 l5 s5), .bool false] (by go_simp) _ (real_any (decide (Z1 < 0)) false w5 hR5 hT5 h5a h5b h5c (Nat.ne_of_gt (low_pos HQQ.out.1))) ?_
        rintro ed w6 ⟨⟨R, rfl, hR⟩, hW6⟩
        have hs6 : w5.heap.size ≤ w6.heap.size := hW6.size
        have hS6 : RowAt w6 (w.heap.size) 25 #[.bool false, .int .i64 m0, .int .i64 e0] ∧ RowAt w6 (w.heap.size + 1) 25 #[.bool g1, .int .i64 m1, .int .i64 e1] := ⟨RowAt.below hS5.1 hW6 (by omega), RowAt.below hS5.2 hW6 (by omega)⟩
        have C6 := RowAt.below (RowAt.below (RowAt.below (RowAt.below (w := w2.drew) C2 hW3 (by show _ < w2.heap.size; omega)) hW4 (by omega)) hW5 (by omega)) hW6 (by omega)
        have hB6 : Below w.heap.size w w6 := (((hB2.drew.trans (hW3.mono (by show _ ≤ w2.heap.size; omega))).trans (hW4.mono (by omega))).trans (hW5.mono (by omega))).trans (hW6.mono (by omega))
        have hsg : (decide (Z1 < 0) || (decide (Z1.natAbs / Nat.gcd Z1.natAbs (Q0 * Q1) = 0) && false)) = neg := by
          rw [HND.out.1]
          unfold sumNeg
          have eq1 : (Z1.natAbs / Nat.gcd Z1.natAbs (Q0 * Q1) = 0) ↔ Z1 = 0 := ⟨fun h => Classical.byContradiction fun hn => low_ne (fun h' => hn (Int.natAbs_eq_zero.1 h')) h, fun h => by rw [h]; simp⟩
          simp [HQQ.out.2.2.1, eq1, HQQ.out.2.2.2]
        rw [hsg]
        have HA : Hid (AnsS (true && true) neg NN DD (.returned (.tuple #[.agg #[.bool neg, .int .i64 (manOf R : Nat), .int .i64 (expOf R)], .bool true]))) := by
          refine .inr ⟨HFT.out, R, ?_, rfl⟩
          rw [HND.out.2.1, HND.out.2.2]
          exact (Near.low hR HQQ.out.1).move (Nat.pos_of_ne_zero HQQ.out.1) (Nat.mul_pos (Nat.pos_of_ne_zero (vD_ne e0)) (Nat.pos_of_ne_zero (vD_ne e1))) HQQ.out.2.1
        refine ⟨_, rfl, hS6, ?_⟩
        simp only [Act.put, List.setIfInBounds_toArray, List.set_cons_zero, List.set_cons_succ]
        refine held_store_real 13 (by kernel_rfl) rfl rfl _ _ rfl rfl (w.heap.size + 1 + 1) neg (manOf R : Nat) (expOf R) rfl rfl false 0 0 C6 ?_
        intro w7 hR7 hg7 hs7
        have hS7 : RowAt w7 (w.heap.size) 25 #[.bool false, .int .i64 m0, .int .i64 e0] ∧ RowAt w7 (w.heap.size + 1) 25 #[.bool g1, .int .i64 m1, .int .i64 e1] := ⟨RowAt.grown hS6.1 hg7 (by simp; omega), RowAt.grown hS6.2 hg7 (by simp)⟩
        refine ⟨hS7, ?_⟩
        refine held_assign 14 (some 5) (by kernel_rfl) rfl rfl _ rfl rfl (.bool true) rfl hS7 ?_
        simp only [Act.put, List.setIfInBounds_toArray, List.set_cons_zero, List.set_cons_succ]
        refine wpAnyH_done (by kernel_rfl) ?_ _
        refine NoPanic.normal ?_
        go_wp2
        exact bodyPost_ret (res_real_tmp Try.results24 _ _ (w.heap.size + 1 + 1) _ _ _ _ rfl rfl hR7) rfl ⟨HA.out, hB6.grown hg7 hB6.size (by intro k hk; cases hk; omega)⟩

set_option maxHeartbeats 8000000 in
set_option maxRecDepth 100000 in
theorem implMulReal_any (g0 : Bool) (m0 e0 : Int) (g1 : Bool) (m1 e1 : Int) (w : World) :
    Calls Try.prog 26 #[.agg #[.bool g0, .int .i64 m0, .int .i64 e0], .agg #[.bool g1, .int .i64 m1, .int .i64 e1]] w fun e' w' => AnsS (finB m0 e0 && finB m1 e1) (g0 != g1) (vN m0.toNat e0 * vN m1.toNat e1) (vD e0 * vD e1) e' ∧ Below w.heap.size w w' := by
  have hz := zero_real.1
  have A : RowAt (((w.alloc (.cells #[.bool g0, .int .i64 m0, .int .i64 e0] 25)).alloc (.cells #[.bool g1, .int .i64 m1, .int .i64 e1] 25)).alloc (.cells #[.bool false, .int .i64 0, .int .i64 0] 25)) w.heap.size 25 #[.bool g0, .int .i64 m0, .int .i64 e0] := RowAt.old (RowAt.old (RowAt.new w 25 #[.bool g0, .int .i64 m0, .int .i64 e0]) _) _
  have B : RowAt (((w.alloc (.cells #[.bool g0, .int .i64 m0, .int .i64 e0] 25)).alloc (.cells #[.bool g1, .int .i64 m1, .int .i64 e1] 25)).alloc (.cells #[.bool false, .int .i64 0, .int .i64 0] 25)) (w.heap.size + 1) 25 #[.bool g1, .int .i64 m1, .int .i64 e1] := by
    have h := RowAt.new (w.alloc (.cells #[.bool g0, .int .i64 m0, .int .i64 e0] 25)) 25 #[.bool g1, .int .i64 m1, .int .i64 e1]
    rw [World.size_alloc] at h
    exact RowAt.old h _
  have C : RowAt (((w.alloc (.cells #[.bool g0, .int .i64 m0, .int .i64 e0] 25)).alloc (.cells #[.bool g1, .int .i64 m1, .int .i64 e1] 25)).alloc (.cells #[.bool false, .int .i64 0, .int .i64 0] 25)) (w.heap.size + 1 + 1) 25 #[.bool false, .int .i64 0, .int .i64 0] := by
    have h := RowAt.new ((w.alloc (.cells #[.bool g0, .int .i64 m0, .int .i64 e0] 25)).alloc (.cells #[.bool g1, .int .i64 m1, .int .i64 e1] 25)) 25 #[.bool false, .int .i64 0, .int .i64 0]
    simp only [World.size_alloc] at h
    exact h
  have hB : Below w.heap.size w (((w.alloc (.cells #[.bool g0, .int .i64 m0, .int .i64 e0] 25)).alloc (.cells #[.bool g1, .int .i64 m1, .int .i64 e1] 25)).alloc (.cells #[.bool false, .int .i64 0, .int .i64 0] 25)) := (((Below.refl _ _).alloc (Nat.le_refl _) _).alloc (by simp) _).alloc (by simp; omega) _
  have hws : (((w.alloc (.cells #[.bool g0, .int .i64 m0, .int .i64 e0] 25)).alloc (.cells #[.bool g1, .int .i64 m1, .int .i64 e1] 25)).alloc (.cells #[.bool false, .int .i64 0, .int .i64 0] 25)).heap.size = w.heap.size + 1 + 1 + 1 := by simp
  have HF0 := hide (fun w' => isFinite_any g0 m0 e0 w')
  have HF1 := hide (fun w' => isFinite_any g1 m1 e1 w')
  obtain ⟨f0, hf0⟩ : ∃ f, f = finB m0 e0 := ⟨_, rfl⟩
  obtain ⟨f1, hf1⟩ : ∃ f, f = finB m1 e1 := ⟨_, rfl⟩
  rw [← hf0] at HF0 ⊢
  rw [← hf1] at HF1 ⊢
  have HH := hide (And.intro hf0 hf1)
  obtain ⟨neg, hneg⟩ : ∃ x, x = (g0 != g1) := ⟨_, rfl⟩
  obtain ⟨NN, hNN⟩ : ∃ x, x = (vN m0.toNat e0 * vN m1.toNat e1) := ⟨_, rfl⟩
  obtain ⟨DD, hDD⟩ : ∃ x, x = (vD e0 * vD e1) := ⟨_, rfl⟩
  rw [← hneg, ← hNN, ← hDD]
  have HND := hide (And.intro hneg (And.intro hNN hDD))
  clear hf0 hf1 hneg hNN hDD
  go_enter Try.func26, Try.ntmps26
  generalize hw0 : ((w.alloc (.cells #[.bool g0, .int .i64 m0, .int .i64 e0] 25)).alloc (.cells #[.bool g1, .int .i64 m1, .int .i64 e1] 25)).alloc (.cells #[.bool false, .int .i64 0, .int .i64 0] 25) = w0 at A B C hB hws
  go_wp2_with (with_reducible refine wpList_idO ?_; refine load_realU rfl _ rfl w.heap.size rfl g0 m0 e0 A ?_)
  refine (HF0.out w0).mono ?_
  rintro e w1 ⟨rfl, hW1⟩
  have hs1 := hW1.size
  have A1 := RowAt.below A hW1 (by omega)
  have B1 := RowAt.below B hW1 (by omega)
  have C1 := RowAt.below C hW1 (by omega)
  have hB1 : Below w.heap.size w w1 := hB.trans (hW1.mono (by omega))
  clear hw0 A B C hB hW1
  cases f0 with
  | false =>
    have HA : Hid (AnsS (false && f1) neg NN DD (.returned (.tuple #[.agg #[.bool false, .int .i64 0, .int .i64 0], .bool false]))) := .inl ⟨by simp, rfl⟩
    go_wp2_with (with_reducible refine wpList_idO ?_; refine store_3 rfl 25 _ _ rfl rfl zero_real.2 (w.heap.size + 1 + 1) _ rfl (real_one _ _ _) rfl rfl _ rfl C1 ?_; intro w2 hR2 hg2 hs2)
    exact bodyPost_ret (res_real_tmp Try.results26 _ _ (w.heap.size + 1 + 1) _ _ _ _ rfl rfl hR2) rfl ⟨HA.out, hB1.grown hg2 hB1.size (by intro k hk; cases hk; omega)⟩
  | true =>
    have c10 : w1.cell? ⟨w.heap.size + 1, 0, none⟩ = some (.bool g1) := by rw [cell_of_row _ _ _ _ _ _ B1]; rfl
    have c11 : w1.cell? ⟨w.heap.size + 1, 1, none⟩ = some (.int .i64 m1) := by rw [cell_of_row _ _ _ _ _ _ B1]; rfl
    have c12 : w1.cell? ⟨w.heap.size + 1, 2, none⟩ = some (.int .i64 e1) := by rw [cell_of_row _ _ _ _ _ _ B1]; rfl
    go_wp2_with fail
    refine (HF1.out w1).mono ?_
    rintro e w2 ⟨rfl, hW2⟩
    have hs2 := hW2.size
    have A2 := RowAt.below A1 hW2 (by omega)
    have B2 := RowAt.below B1 hW2 (by omega)
    have C2 := RowAt.below C1 hW2 (by omega)
    have hB2 : Below w.heap.size w w2 := hB1.trans (hW2.mono (by omega))
    have hs2' : w.heap.size + 1 + 1 + 1 ≤ w2.heap.size := by omega
    clear A1 B1 C1 hB1 hW2 c10 c11 c12 hs1 hs2
    cases f1 with
    | false =>
      have HA : Hid (AnsS (true && false) neg NN DD (.returned (.tuple #[.agg #[.bool false, .int .i64 0, .int .i64 0], .bool false]))) := .inl ⟨by simp, rfl⟩
      go_wp2_with (with_reducible refine wpList_idO ?_; refine store_3 rfl 25 _ _ rfl rfl zero_real.2 (w.heap.size + 1 + 1) _ rfl (real_one _ _ _) rfl rfl _ rfl C2 ?_; intro w3 hR3 hg3 hs3)
      exact bodyPost_ret (res_real_tmp Try.results26 _ _ (w.heap.size + 1 + 1) _ _ _ _ rfl rfl hR3) rfl ⟨HA.out, hB2.grown hg3 hB2.size (by intro k hk; cases hk; omega)⟩
    | true =>
      obtain ⟨n0, hn0, hF0⟩ := (finB_iff m0 e0).1 HH.out.1.symm
      obtain ⟨n1, hn1, hF1⟩ := (finB_iff m1 e1).1 HH.out.2.symm
      have ht0 : m0.toNat = n0 := by omega
      have ht1 : m1.toNat = n1 := by omega
      rw [ht0, ht1] at HND
      have HFT : Hid ((true && true) = true) := rfl
      have HN0 := hide (And.intro hn0 hF0)
      have HNN1 := hide (And.intro hn1 hF1)
      have L0 := hide (low_lt hF0)
      have L1 := hide (low_lt hF1)
      clear hn0 hn1 hF0 hF1 ht0 ht1
      go_wp2_with fail
      refine held_begin (fun w' => RowAt w' (w.heap.size) 25 #[.bool g0, .int .i64 m0, .int .i64 e0] ∧ RowAt w' (w.heap.size + 1) 25 #[.bool g1, .int .i64 m1, .int .i64 e1]) (by kernel_rfl) ?_
      have hS : RowAt w2.drew (w.heap.size) 25 #[.bool g0, .int .i64 m0, .int .i64 e0] ∧ RowAt w2.drew (w.heap.size + 1) 25 #[.bool g1, .int .i64 m1, .int .i64 e1] := ⟨A2, B2⟩
      refine held_valS 0 (some 15) rfl rfl (by kernel_rfl) (by kernel_rfl) (by kernel_rfl) noPanic_put rfl (.agg #[.bool g0, .int .i64 m0, .int .i64 e0]) (fun _ h => run_loadReal _ rfl (w.heap.size) rfl g0 m0 e0 h.1) hS ?_
      simp only [Act.put, List.setIfInBounds_toArray, List.set_cons_zero, List.set_cons_succ]
      refine held_valS 2 (some 17) rfl rfl (by kernel_rfl) (by kernel_rfl) (by kernel_rfl) noPanic_put rfl (.agg #[.bool g1, .int .i64 m1, .int .i64 e1]) (fun _ h => run_loadReal _ rfl (w.heap.size + 1) rfl g1 m1 e1 h.2) hS ?_
      simp only [Act.put, List.setIfInBounds_toArray, List.set_cons_zero, List.set_cons_succ]
      refine held_val 5 (some 20) rfl rfl (by kernel_rfl) (by kernel_rfl) (by kernel_rfl) noPanic_put rfl (.pointer (some ⟨w.heap.size, 0, none⟩)) (fun _ => by go_simp) hS ?_
      simp only [Act.put, List.setIfInBounds_toArray, List.set_cons_zero, List.set_cons_succ]
      refine held_valS 6 (some 21) rfl rfl (by kernel_rfl) (by kernel_rfl) (by kernel_rfl) noPanic_put rfl (.bool g0) (fun _ h => BL.run_cell1 _ 4 rfl ⟨w.heap.size, 0, none⟩ rfl (.bool g0) Try.underlying4 rfl (by rw [cell_of_row _ _ _ _ _ _ h.1]; rfl)) hS ?_
      simp only [Act.put, List.setIfInBounds_toArray, List.set_cons_zero, List.set_cons_succ]
      refine held_val 7 (some 22) rfl rfl (by kernel_rfl) (by kernel_rfl) (by kernel_rfl) noPanic_put rfl (.pointer (some ⟨w.heap.size + 1, 0, none⟩)) (fun _ => by go_simp) hS ?_
      simp only [Act.put, List.setIfInBounds_toArray, List.set_cons_zero, List.set_cons_succ]
      refine held_valS 8 (some 23) rfl rfl (by kernel_rfl) (by kernel_rfl) (by kernel_rfl) noPanic_put rfl (.bool g1) (fun _ h => BL.run_cell1 _ 4 rfl ⟨w.heap.size + 1, 0, none⟩ rfl (.bool g1) Try.underlying4 rfl (by rw [cell_of_row _ _ _ _ _ _ h.2]; rfl)) hS ?_
      simp only [Act.put, List.setIfInBounds_toArray, List.set_cons_zero, List.set_cons_succ]
      refine held_val 9 (some 24) rfl rfl (by kernel_rfl) (by kernel_rfl) (by kernel_rfl) noPanic_put rfl (.bool (g0 != g1)) (fun _ => by go_simp; cases g0 <;> cases g1 <;> rfl) hS ?_
      simp only [Act.put, List.setIfInBounds_toArray, List.set_cons_zero, List.set_cons_succ]
      refine held_call 1 (some 16) (by kernel_rfl) rfl rfl rfl 42 #[.agg #[.bool g0, .int .i64 m0, .int .i64 e0]] (by go_simp) _ (rnum_any g0 m0 e0 w2.drew HN0.out.1 HN0.out.2) ?_
      rintro ea w3 ⟨⟨v3, rfl, i0, l0, r0, s0, rfl, hP0, hQ0⟩, hW3⟩
      have hs3 : w2.heap.size ≤ w3.heap.size := hW3.size
      have hS3 : RowAt w3 (w.heap.size) 25 #[.bool g0, .int .i64 m0, .int .i64 e0] ∧ RowAt w3 (w.heap.size + 1) 25 #[.bool g1, .int .i64 m1, .int .i64 e1] := ⟨RowAt.below hS.1 hW3 (by show _ < w2.heap.size; omega), RowAt.below hS.2 hW3 (by show _ < w2.heap.size; omega)⟩
      refine ⟨_, rfl, hS3, ?_⟩
      simp only [Act.put, List.setIfInBounds_toArray, List.set_cons_zero, List.set_cons_succ]
      refine held_call 3 (some 18) (by kernel_rfl) rfl rfl rfl 42 #[.agg #[.bool g1, .int .i64 m1, .int .i64 e1]] (by go_simp) _ (rnum_any g1 m1 e1 w3 HNN1.out.1 HNN1.out.2) ?_
      rintro eb w4 ⟨⟨v4, rfl, i1, l1, r1, s1, rfl, hP1, hQ1⟩, hW4⟩
      have hs4 : w3.heap.size ≤ w4.heap.size := hW4.size
      have hS4 : RowAt w4 (w.heap.size) 25 #[.bool g0, .int .i64 m0, .int .i64 e0] ∧ RowAt w4 (w.heap.size + 1) 25 #[.bool g1, .int .i64 m1, .int .i64 e1] := ⟨RowAt.below hS3.1 hW4 (by omega), RowAt.below hS3.2 hW4 (by omega)⟩
      have hi0 := two_used hP0 L0.out.1 (by omega)
      have hl0 := two_used hQ0 (pow_in (j := 151) L0.out.2 (by omega)) (by omega)
      have hi1 := two_used hP1 L1.out.1 (by omega)
      have hl1 := two_used hQ1 (pow_in (j := 151) L1.out.2 (by omega)) (by omega)
      have q0 : vD e0 / Nat.gcd (vN n0 e0) (vD e0) ≠ 0 := Nat.ne_of_gt (low_pos (vD_ne e0))
      have q1 : vD e1 / Nat.gcd (vN n1 e1) (vD e1) ≠ 0 := Nat.ne_of_gt (low_pos (vD_ne e1))
      have x0 := low_cross (x := vN n0 e0) (y := vD e0)
      have x1 := low_cross (x := vN n1 e1) (y := vD e1)
      have gc0 := low_gcd (x := vN n0 e0) (vD_ne e0)
      have gc1 := low_gcd (x := vN n1 e1) (vD_ne e1)
      obtain ⟨P0, hP0e⟩ : ∃ x, x = vN n0 e0 / Nat.gcd (vN n0 e0) (vD e0) := ⟨_, rfl⟩
      obtain ⟨Q0, hQ0e⟩ : ∃ x, x = vD e0 / Nat.gcd (vN n0 e0) (vD e0) := ⟨_, rfl⟩
      obtain ⟨P1, hP1e⟩ : ∃ x, x = vN n1 e1 / Nat.gcd (vN n1 e1) (vD e1) := ⟨_, rfl⟩
      obtain ⟨Q1, hQ1e⟩ : ∃ x, x = vD e1 / Nat.gcd (vN n1 e1) (vD e1) := ⟨_, rfl⟩
      have z0 : n0 = 0 ↔ P0 = 0 := ⟨fun h => by rw [hP0e, vN_zero.2 h, Nat.zero_div], fun h => Classical.byContradiction fun hn => low_ne (fun h' => hn (vN_zero.1 h')) (hP0e.symm.trans h)⟩
      have z1 : n1 = 0 ↔ P1 = 0 := ⟨fun h => by rw [hP1e, vN_zero.2 h, Nat.zero_div], fun h => Classical.byContradiction fun hn => low_ne (fun h' => hn (vN_zero.1 h')) (hP1e.symm.trans h)⟩
      rw [← hP0e] at hP0 x0 gc0 L0
      rw [← hQ0e] at hQ0 x0 gc0 q0 L0
      rw [← hP1e] at hP1 x1 gc1 L1
      rw [← hQ1e] at hQ1 x1 gc1 q1 L1
      have HX := hide (And.intro x0 x1)
      have HZZ := hide (And.intro z0 z1)
      clear x0 x1 z0 z1 hP0e hQ0e hP1e hQ1e
      refine ⟨_, rfl, hS4, ?_⟩
      simp only [Act.put, List.setIfInBounds_toArray, List.set_cons_zero, List.set_cons_succ]
      refine held_call 4 (some 19) (by kernel_rfl) rfl rfl rfl 47 #[.agg (numC (g0 && decide (n0 ≠ 0)) i0 r0 l0 s0), .agg (numC (g1 && decide (n1 ≠ 0)) i1 r1 l1 s1)] (by go_simp) _ (numTimes_any (g0 && decide (n0 ≠ 0)) (g1 && decide (n1 ≠ 0)) w4 hP0 hQ0 hP1 hQ1 hi0 hl0 hi1 hl1 (fun h => q0 (hQ0.zero_iff.1 h)) (fun h => q1 (hQ1.zero_iff.1 h)) gc0 gc1) ?_
      rintro ec w5 ⟨i5, l5, r5, s5, rfl, hR5, hT5, hW5⟩
      have hs5 : w4.heap.size ≤ w5.heap.size := hW5.size
      have hS5 : RowAt w5 (w.heap.size) 25 #[.bool g0, .int .i64 m0, .int .i64 e0] ∧ RowAt w5 (w.heap.size + 1) 25 #[.bool g1, .int .i64 m1, .int .i64 e1] := ⟨RowAt.below hS4.1 hW5 (by omega), RowAt.below hS4.2 hW5 (by omega)⟩
      have hqq : Q0 * Q1 ≠ 0 := Nat.mul_ne_zero q0 q1
      have hlt := mul_two L0.out.1 (Nat.le_of_lt L1.out.1)
      have hlt2 := mul_two (pow_in (j := 151) L0.out.2 (by omega)) L1.out.2
      have h5a : i5 ≤ 100 := two_used hR5 (Nat.lt_of_le_of_lt (Nat.div_le_self _ _) hlt) (by omega)
      have h5b : l5 ≤ 100 := two_used hT5 (Nat.lt_of_le_of_lt (Nat.div_le_self _ _) hlt2) (by omega)
      have h5c := pow_up (j := 1000) (Nat.lt_of_le_of_lt (Nat.div_le_self (P0 * P1) (Nat.gcd (P0 * P1) (Q0 * Q1))) hlt) (by omega)
      have hcr : (P0 * P1) * (vD e0 * vD e1) = (vN n0 e0 * vN n1 e1) * (Q0 * Q1) := mul_cross HX.out.1 HX.out.2
      have HQQ := hide (And.intro hqq hcr)
      obtain ⟨G, hG⟩ : ∃ x, x = (((g0 && decide (n0 ≠ 0)) != (g1 && decide (n1 ≠ 0))) && decide (P0 * P1 ≠ 0)) := ⟨_, rfl⟩
      rw [← hG]
      have HG := hide hG
      clear hlt hlt2 hqq hcr hG
      refine ⟨_, rfl, hS5, ?_⟩
      simp only [Act.put, List.setIfInBounds_toArray, List.set_cons_zero, List.set_cons_succ]
      refine held_call 10 (some 25) (by kernel_rfl) rfl rfl rfl 35 #[.agg (numC G i5 r5 l5 s5), .bool (g0 != g1)] (by go_simp) _ (real_any G (g0 != g1) w5 hR5 hT5 h5a h5b h5c (Nat.ne_of_gt (low_pos HQQ.out.1))) ?_
      rintro ed w6 ⟨⟨R, rfl, hR⟩, hW6⟩
      have hs6 : w5.heap.size ≤ w6.heap.size := hW6.size
      have hS6 : RowAt w6 (w.heap.size) 25 #[.bool g0, .int .i64 m0, .int .i64 e0] ∧ RowAt w6 (w.heap.size + 1) 25 #[.bool g1, .int .i64 m1, .int .i64 e1] := ⟨RowAt.below hS5.1 hW6 (by omega), RowAt.below hS5.2 hW6 (by omega)⟩
      have C6 := RowAt.below (RowAt.below (RowAt.below (RowAt.below (w := w2.drew) C2 hW3 (by show _ < w2.heap.size; omega)) hW4 (by omega)) hW5 (by omega)) hW6 (by omega)
      have hB6 : Below w.heap.size w w6 := (((hB2.drew.trans (hW3.mono (by show _ ≤ w2.heap.size; omega))).trans (hW4.mono (by omega))).trans (hW5.mono (by omega))).trans (hW6.mono (by omega))
      have hsg : (G || (decide ((P0 * P1) / Nat.gcd (P0 * P1) (Q0 * Q1) = 0) && (g0 != g1))) = neg := by
        rw [HND.out.1, HG.out]
        by_cases hx : P0 * P1 = 0
        · rw [hx]; simp
        · have h1 : (P0 * P1) / Nat.gcd (P0 * P1) (Q0 * Q1) ≠ 0 := low_ne hx
          have hn0 : n0 ≠ 0 := fun h => hx (by rw [HZZ.out.1.1 h, Nat.zero_mul])
          have hn1 : n1 ≠ 0 := fun h => hx (by rw [HZZ.out.2.1 h, Nat.mul_zero])
          rw [decide_eq_true hx, decide_eq_false h1, decide_eq_true hn0, decide_eq_true hn1]; simp
      rw [hsg]
      have HA : Hid (AnsS (true && true) neg NN DD (.returned (.tuple #[.agg #[.bool neg, .int .i64 (manOf R : Nat), .int .i64 (expOf R)], .bool true]))) := by
        refine .inr ⟨HFT.out, R, ?_, rfl⟩
        rw [HND.out.2.1, HND.out.2.2]
        exact (Near.low hR HQQ.out.1).move (Nat.pos_of_ne_zero HQQ.out.1) (Nat.mul_pos (Nat.pos_of_ne_zero (vD_ne e0)) (Nat.pos_of_ne_zero (vD_ne e1))) HQQ.out.2
      refine ⟨_, rfl, hS6, ?_⟩
      simp only [Act.put, List.setIfInBounds_toArray, List.set_cons_zero, List.set_cons_succ]
      refine held_store_real 11 (by kernel_rfl) rfl rfl _ _ rfl rfl (w.heap.size + 1 + 1) neg (manOf R : Nat) (expOf R) rfl rfl false 0 0 C6 ?_
      intro w7 hR7 hg7 hs7
      have hS7 : RowAt w7 (w.heap.size) 25 #[.bool g0, .int .i64 m0, .int .i64 e0] ∧ RowAt w7 (w.heap.size + 1) 25 #[.bool g1, .int .i64 m1, .int .i64 e1] := ⟨RowAt.grown hS6.1 hg7 (by simp; omega), RowAt.grown hS6.2 hg7 (by simp)⟩
      refine ⟨hS7, ?_⟩
      refine held_assign 12 (some 5) (by kernel_rfl) rfl rfl _ rfl rfl (.bool true) rfl hS7 ?_
      simp only [Act.put, List.setIfInBounds_toArray, List.set_cons_zero, List.set_cons_succ]
      refine wpAnyH_done (by kernel_rfl) ?_ _
      refine NoPanic.normal ?_
      go_wp2
      exact bodyPost_ret (res_real_tmp Try.results26 _ _ (w.heap.size + 1 + 1) _ _ _ _ rfl rfl hR7) rfl ⟨HA.out, hB6.grown hg7 hB6.size (by intro k hk; cases hk; omega)⟩

set_option maxHeartbeats 8000000 in
set_option maxRecDepth 100000 in
theorem implDivReal_any (g0 : Bool) (m0 e0 : Int) (g1 : Bool) (m1 e1 : Int) (w : World) :
    Calls Try.prog 28 #[.agg #[.bool g0, .int .i64 m0, .int .i64 e0], .agg #[.bool g1, .int .i64 m1, .int .i64 e1]] w fun e' w' => AnsS (finB m0 e0 && finB m1 e1 && decide (m1 ≠ 0)) (g0 != g1) (vN m0.toNat e0 * vD e1) (vD e0 * vN m1.toNat e1) e' ∧ Below w.heap.size w w' := by
  have hz := zero_real.1
  have A : RowAt (((w.alloc (.cells #[.bool g0, .int .i64 m0, .int .i64 e0] 25)).alloc (.cells #[.bool g1, .int .i64 m1, .int .i64 e1] 25)).alloc (.cells #[.bool false, .int .i64 0, .int .i64 0] 25)) w.heap.size 25 #[.bool g0, .int .i64 m0, .int .i64 e0] := RowAt.old (RowAt.old (RowAt.new w 25 #[.bool g0, .int .i64 m0, .int .i64 e0]) _) _
  have B : RowAt (((w.alloc (.cells #[.bool g0, .int .i64 m0, .int .i64 e0] 25)).alloc (.cells #[.bool g1, .int .i64 m1, .int .i64 e1] 25)).alloc (.cells #[.bool false, .int .i64 0, .int .i64 0] 25)) (w.heap.size + 1) 25 #[.bool g1, .int .i64 m1, .int .i64 e1] := by
    have h := RowAt.new (w.alloc (.cells #[.bool g0, .int .i64 m0, .int .i64 e0] 25)) 25 #[.bool g1, .int .i64 m1, .int .i64 e1]
    rw [World.size_alloc] at h
    exact RowAt.old h _
  have C : RowAt (((w.alloc (.cells #[.bool g0, .int .i64 m0, .int .i64 e0] 25)).alloc (.cells #[.bool g1, .int .i64 m1, .int .i64 e1] 25)).alloc (.cells #[.bool false, .int .i64 0, .int .i64 0] 25)) (w.heap.size + 1 + 1) 25 #[.bool false, .int .i64 0, .int .i64 0] := by
    have h := RowAt.new ((w.alloc (.cells #[.bool g0, .int .i64 m0, .int .i64 e0] 25)).alloc (.cells #[.bool g1, .int .i64 m1, .int .i64 e1] 25)) 25 #[.bool false, .int .i64 0, .int .i64 0]
    simp only [World.size_alloc] at h
    exact h
  have hB : Below w.heap.size w (((w.alloc (.cells #[.bool g0, .int .i64 m0, .int .i64 e0] 25)).alloc (.cells #[.bool g1, .int .i64 m1, .int .i64 e1] 25)).alloc (.cells #[.bool false, .int .i64 0, .int .i64 0] 25)) := (((Below.refl _ _).alloc (Nat.le_refl _) _).alloc (by simp) _).alloc (by simp; omega) _
  have hws : (((w.alloc (.cells #[.bool g0, .int .i64 m0, .int .i64 e0] 25)).alloc (.cells #[.bool g1, .int .i64 m1, .int .i64 e1] 25)).alloc (.cells #[.bool false, .int .i64 0, .int .i64 0] 25)).heap.size = w.heap.size + 1 + 1 + 1 := by simp
  have HF0 := hide (fun w' => isFinite_any g0 m0 e0 w')
  have HF1 := hide (fun w' => isFinite_any g1 m1 e1 w')
  obtain ⟨f0, hf0⟩ : ∃ f, f = finB m0 e0 := ⟨_, rfl⟩
  obtain ⟨f1, hf1⟩ : ∃ f, f = finB m1 e1 := ⟨_, rfl⟩
  rw [← hf0] at HF0 ⊢
  rw [← hf1] at HF1 ⊢
  have HH := hide (And.intro hf0 hf1)
  obtain ⟨neg, hneg⟩ : ∃ x, x = (g0 != g1) := ⟨_, rfl⟩
  obtain ⟨NN, hNN⟩ : ∃ x, x = (vN m0.toNat e0 * vD e1) := ⟨_, rfl⟩
  obtain ⟨DD, hDD⟩ : ∃ x, x = (vD e0 * vN m1.toNat e1) := ⟨_, rfl⟩
  rw [← hneg, ← hNN, ← hDD]
  have HND := hide (And.intro hneg (And.intro hNN hDD))
  clear hf0 hf1 hneg hNN hDD
  go_enter Try.func28, Try.ntmps28
  generalize hw0 : ((w.alloc (.cells #[.bool g0, .int .i64 m0, .int .i64 e0] 25)).alloc (.cells #[.bool g1, .int .i64 m1, .int .i64 e1] 25)).alloc (.cells #[.bool false, .int .i64 0, .int .i64 0] 25) = w0 at A B C hB hws
  go_wp2_with (with_reducible refine wpList_idO ?_; refine load_realU rfl _ rfl w.heap.size rfl g0 m0 e0 A ?_)
  refine (HF0.out w0).mono ?_
  rintro e w1 ⟨rfl, hW1⟩
  have hs1 := hW1.size
  have A1 := RowAt.below A hW1 (by omega)
  have B1 := RowAt.below B hW1 (by omega)
  have C1 := RowAt.below C hW1 (by omega)
  have hB1 : Below w.heap.size w w1 := hB.trans (hW1.mono (by omega))
  clear hw0 A B C hB hW1
  cases f0 with
  | false =>
    have HA : Hid (AnsS (false && f1 && decide (m1 ≠ 0)) neg NN DD (.returned (.tuple #[.agg #[.bool false, .int .i64 0, .int .i64 0], .bool false]))) := .inl ⟨by simp, rfl⟩
    go_wp2_with (with_reducible refine wpList_idO ?_; refine store_3 rfl 25 _ _ rfl rfl zero_real.2 (w.heap.size + 1 + 1) _ rfl (real_one _ _ _) rfl rfl _ rfl C1 ?_; intro w2 hR2 hg2 hs2)
    exact bodyPost_ret (res_real_tmp Try.results28 _ _ (w.heap.size + 1 + 1) _ _ _ _ rfl rfl hR2) rfl ⟨HA.out, hB1.grown hg2 hB1.size (by intro k hk; cases hk; omega)⟩
  | true =>
    have c10 : w1.cell? ⟨w.heap.size + 1, 0, none⟩ = some (.bool g1) := by rw [cell_of_row _ _ _ _ _ _ B1]; rfl
    have c11 : w1.cell? ⟨w.heap.size + 1, 1, none⟩ = some (.int .i64 m1) := by rw [cell_of_row _ _ _ _ _ _ B1]; rfl
    have c12 : w1.cell? ⟨w.heap.size + 1, 2, none⟩ = some (.int .i64 e1) := by rw [cell_of_row _ _ _ _ _ _ B1]; rfl
    go_wp2_with fail
    refine (HF1.out w1).mono ?_
    rintro e w2 ⟨rfl, hW2⟩
    have hs2 := hW2.size
    have A2 := RowAt.below A1 hW2 (by omega)
    have B2 := RowAt.below B1 hW2 (by omega)
    have C2 := RowAt.below C1 hW2 (by omega)
    have hB2 : Below w.heap.size w w2 := hB1.trans (hW2.mono (by omega))
    have hs2' : w.heap.size + 1 + 1 + 1 ≤ w2.heap.size := by omega
    clear A1 B1 C1 hB1 hW2 c10 c11 c12 hs1 hs2
    cases f1 with
    | false =>
      have HA : Hid (AnsS (true && false && decide (m1 ≠ 0)) neg NN DD (.returned (.tuple #[.agg #[.bool false, .int .i64 0, .int .i64 0], .bool false]))) := .inl ⟨by simp, rfl⟩
      go_wp2_with (with_reducible refine wpList_idO ?_; refine store_3 rfl 25 _ _ rfl rfl zero_real.2 (w.heap.size + 1 + 1) _ rfl (real_one _ _ _) rfl rfl _ rfl C2 ?_; intro w3 hR3 hg3 hs3)
      exact bodyPost_ret (res_real_tmp Try.results28 _ _ (w.heap.size + 1 + 1) _ _ _ _ rfl rfl hR3) rfl ⟨HA.out, hB2.grown hg3 hB2.size (by intro k hk; cases hk; omega)⟩
    | true =>
      obtain ⟨n0, hn0, hF0⟩ := (finB_iff m0 e0).1 HH.out.1.symm
      obtain ⟨n1, hn1, hF1⟩ := (finB_iff m1 e1).1 HH.out.2.symm
      have ht0 : m0.toNat = n0 := by omega
      have ht1 : m1.toNat = n1 := by omega
      rw [ht0, ht1] at HND
      have c21 : w2.cell? ⟨w.heap.size + 1, 1, none⟩ = some (.int .i64 m1) := by rw [cell_of_row _ _ _ _ _ _ B2]; rfl
      by_cases hd0 : m1 = 0
      · have hdb : (m1 == 0) = true := by simpa using hd0
        have HA : Hid (AnsS (true && true && decide (m1 ≠ 0)) neg NN DD (.returned (.tuple #[.agg #[.bool false, .int .i64 0, .int .i64 0], .bool false]))) := .inl ⟨by simp [hd0], rfl⟩
        clear hd0
        go_wp2_with (with_reducible refine wpList_idO ?_; refine store_3 rfl 25 _ _ rfl rfl zero_real.2 (w.heap.size + 1 + 1) _ rfl (real_one _ _ _) rfl rfl _ rfl C2 ?_; intro w3 hR3 hg3 hs3)
        exact bodyPost_ret (res_real_tmp Try.results28 _ _ (w.heap.size + 1 + 1) _ _ _ _ rfl rfl hR3) rfl ⟨HA.out, hB2.grown hg3 hB2.size (by intro k hk; cases hk; omega)⟩
      have hdb : (m1 == 0) = false := by simpa using hd0
      have HN1 : Hid (n1 ≠ 0) := fun h => hd0 (by omega)
      have HFT : Hid ((true && true && decide (m1 ≠ 0)) = true) := by unfold Hid; simp [hd0]
      clear hd0
      have HN0 := hide (And.intro hn0 hF0)
      have HNN1 := hide (And.intro hn1 hF1)
      have L0 := hide (low_lt hF0)
      have L1 := hide (low_lt hF1)
      clear hn0 hn1 hF0 hF1 ht0 ht1
      go_wp2_with fail
      clear c21 hdb
      refine held_begin (fun w' => RowAt w' (w.heap.size) 25 #[.bool g0, .int .i64 m0, .int .i64 e0] ∧ RowAt w' (w.heap.size + 1) 25 #[.bool g1, .int .i64 m1, .int .i64 e1]) (by kernel_rfl) ?_
      have hS : RowAt w2.drew (w.heap.size) 25 #[.bool g0, .int .i64 m0, .int .i64 e0] ∧ RowAt w2.drew (w.heap.size + 1) 25 #[.bool g1, .int .i64 m1, .int .i64 e1] := ⟨A2, B2⟩
      refine held_valS 0 (some 20) rfl rfl (by kernel_rfl) (by kernel_rfl) (by kernel_rfl) noPanic_put rfl (.agg #[.bool g0, .int .i64 m0, .int .i64 e0]) (fun _ h => run_loadReal _ rfl (w.heap.size) rfl g0 m0 e0 h.1) hS ?_
      simp only [Act.put, List.setIfInBounds_toArray, List.set_cons_zero, List.set_cons_succ]
      refine held_valS 2 (some 22) rfl rfl (by kernel_rfl) (by kernel_rfl) (by kernel_rfl) noPanic_put rfl (.agg #[.bool g1, .int .i64 m1, .int .i64 e1]) (fun _ h => run_loadReal _ rfl (w.heap.size + 1) rfl g1 m1 e1 h.2) hS ?_
      simp only [Act.put, List.setIfInBounds_toArray, List.set_cons_zero, List.set_cons_succ]
      refine held_val 5 (some 25) rfl rfl (by kernel_rfl) (by kernel_rfl) (by kernel_rfl) noPanic_put rfl (.pointer (some ⟨w.heap.size, 0, none⟩)) (fun _ => by go_simp) hS ?_
      simp only [Act.put, List.setIfInBounds_toArray, List.set_cons_zero, List.set_cons_succ]
      refine held_valS 6 (some 26) rfl rfl (by kernel_rfl) (by kernel_rfl) (by kernel_rfl) noPanic_put rfl (.bool g0) (fun _ h => BL.run_cell1 _ 4 rfl ⟨w.heap.size, 0, none⟩ rfl (.bool g0) Try.underlying4 rfl (by rw [cell_of_row _ _ _ _ _ _ h.1]; rfl)) hS ?_
      simp only [Act.put, List.setIfInBounds_toArray, List.set_cons_zero, List.set_cons_succ]
      refine held_val 7 (some 27) rfl rfl (by kernel_rfl) (by kernel_rfl) (by kernel_rfl) noPanic_put rfl (.pointer (some ⟨w.heap.size + 1, 0, none⟩)) (fun _ => by go_simp) hS ?_
      simp only [Act.put, List.setIfInBounds_toArray, List.set_cons_zero, List.set_cons_succ]
      refine held_valS 8 (some 28) rfl rfl (by kernel_rfl) (by kernel_rfl) (by kernel_rfl) noPanic_put rfl (.bool g1) (fun _ h => BL.run_cell1 _ 4 rfl ⟨w.heap.size + 1, 0, none⟩ rfl (.bool g1) Try.underlying4 rfl (by rw [cell_of_row _ _ _ _ _ _ h.2]; rfl)) hS ?_
      simp only [Act.put, List.setIfInBounds_toArray, List.set_cons_zero, List.set_cons_succ]
      refine held_val 9 (some 29) rfl rfl (by kernel_rfl) (by kernel_rfl) (by kernel_rfl) noPanic_put rfl (.bool (g0 != g1)) (fun _ => by go_simp; cases g0 <;> cases g1 <;> rfl) hS ?_
      simp only [Act.put, List.setIfInBounds_toArray, List.set_cons_zero, List.set_cons_succ]
      refine held_call 1 (some 21) (by kernel_rfl) rfl rfl rfl 42 #[.agg #[.bool g0, .int .i64 m0, .int .i64 e0]] (by go_simp) _ (rnum_any g0 m0 e0 w2.drew HN0.out.1 HN0.out.2) ?_
      rintro ea w3 ⟨⟨v3, rfl, i0, l0, r0, s0, rfl, hP0, hQ0⟩, hW3⟩
      have hs3 : w2.heap.size ≤ w3.heap.size := hW3.size
      have hS3 : RowAt w3 (w.heap.size) 25 #[.bool g0, .int .i64 m0, .int .i64 e0] ∧ RowAt w3 (w.heap.size + 1) 25 #[.bool g1, .int .i64 m1, .int .i64 e1] := ⟨RowAt.below hS.1 hW3 (by show _ < w2.heap.size; omega), RowAt.below hS.2 hW3 (by show _ < w2.heap.size; omega)⟩
      refine ⟨_, rfl, hS3, ?_⟩
      simp only [Act.put, List.setIfInBounds_toArray, List.set_cons_zero, List.set_cons_succ]
      refine held_call 3 (some 23) (by kernel_rfl) rfl rfl rfl 42 #[.agg #[.bool g1, .int .i64 m1, .int .i64 e1]] (by go_simp) _ (rnum_any g1 m1 e1 w3 HNN1.out.1 HNN1.out.2) ?_
      rintro eb w4 ⟨⟨v4, rfl, i1, l1, r1, s1, rfl, hP1, hQ1⟩, hW4⟩
      have hs4 : w3.heap.size ≤ w4.heap.size := hW4.size
      have hS4 : RowAt w4 (w.heap.size) 25 #[.bool g0, .int .i64 m0, .int .i64 e0] ∧ RowAt w4 (w.heap.size + 1) 25 #[.bool g1, .int .i64 m1, .int .i64 e1] := ⟨RowAt.below hS3.1 hW4 (by omega), RowAt.below hS3.2 hW4 (by omega)⟩
      have hi0 := two_used hP0 L0.out.1 (by omega)
      have hl0 := two_used hQ0 (pow_in (j := 151) L0.out.2 (by omega)) (by omega)
      have hi1 := two_used hP1 L1.out.1 (by omega)
      have hl1 := two_used hQ1 (pow_in (j := 151) L1.out.2 (by omega)) (by omega)
      have q0 : vD e0 / Nat.gcd (vN n0 e0) (vD e0) ≠ 0 := Nat.ne_of_gt (low_pos (vD_ne e0))
      have q1 : vD e1 / Nat.gcd (vN n1 e1) (vD e1) ≠ 0 := Nat.ne_of_gt (low_pos (vD_ne e1))
      have x0 := low_cross (x := vN n0 e0) (y := vD e0)
      have x1 := low_cross (x := vN n1 e1) (y := vD e1)
      have gc0 := low_gcd (x := vN n0 e0) (vD_ne e0)
      have gc1 := low_gcd (x := vN n1 e1) (vD_ne e1)
      obtain ⟨P0, hP0e⟩ : ∃ x, x = vN n0 e0 / Nat.gcd (vN n0 e0) (vD e0) := ⟨_, rfl⟩
      obtain ⟨Q0, hQ0e⟩ : ∃ x, x = vD e0 / Nat.gcd (vN n0 e0) (vD e0) := ⟨_, rfl⟩
      obtain ⟨P1, hP1e⟩ : ∃ x, x = vN n1 e1 / Nat.gcd (vN n1 e1) (vD e1) := ⟨_, rfl⟩
      obtain ⟨Q1, hQ1e⟩ : ∃ x, x = vD e1 / Nat.gcd (vN n1 e1) (vD e1) := ⟨_, rfl⟩
      have z0 : n0 = 0 ↔ P0 = 0 := ⟨fun h => by rw [hP0e, vN_zero.2 h, Nat.zero_div], fun h => Classical.byContradiction fun hn => low_ne (fun h' => hn (vN_zero.1 h')) (hP0e.symm.trans h)⟩
      have z1 : n1 = 0 ↔ P1 = 0 := ⟨fun h => by rw [hP1e, vN_zero.2 h, Nat.zero_div], fun h => Classical.byContradiction fun hn => low_ne (fun h' => hn (vN_zero.1 h')) (hP1e.symm.trans h)⟩
      rw [← hP0e] at hP0 x0 gc0 L0
      rw [← hQ0e] at hQ0 x0 gc0 q0 L0
      rw [← hP1e] at hP1 x1 gc1 L1
      rw [← hQ1e] at hQ1 x1 gc1 q1 L1
      have HX := hide (And.intro x0 x1)
      have HZZ := hide (And.intro z0 z1)
      clear x0 x1 z0 z1 hP0e hQ0e hP1e hQ1e
      refine ⟨_, rfl, hS4, ?_⟩
      simp only [Act.put, List.setIfInBounds_toArray, List.set_cons_zero, List.set_cons_succ]
      refine held_call 4 (some 24) (by kernel_rfl) rfl rfl rfl 48 #[.agg (numC (g0 && decide (n0 ≠ 0)) i0 r0 l0 s0), .agg (numC (g1 && decide (n1 ≠ 0)) i1 r1 l1 s1)] (by go_simp) _ (over_any (g0 && decide (n0 ≠ 0)) (g1 && decide (n1 ≠ 0)) w4 hP0 hQ0 hP1 hQ1 hi0 hl0 hi1 hl1 (fun h => q0 (hQ0.zero_iff.1 h)) (fun h => HN1.out (HZZ.out.2.2 (hP1.zero_iff.1 h))) gc0 gc1) ?_
      rintro ec w5 ⟨i5, l5, r5, s5, rfl, hR5, hT5, hW5⟩
      have hs5 : w4.heap.size ≤ w5.heap.size := hW5.size
      have hS5 : RowAt w5 (w.heap.size) 25 #[.bool g0, .int .i64 m0, .int .i64 e0] ∧ RowAt w5 (w.heap.size + 1) 25 #[.bool g1, .int .i64 m1, .int .i64 e1] := ⟨RowAt.below hS4.1 hW5 (by omega), RowAt.below hS4.2 hW5 (by omega)⟩
      have hqq : Q0 * P1 ≠ 0 := Nat.mul_ne_zero q0 (fun h => HN1.out (HZZ.out.2.2 h))
      have hlt := mul_two L0.out.1 L1.out.2
      have hlt2 := mul_two (pow_in (j := 151) L0.out.2 (by omega)) (Nat.le_of_lt L1.out.1)
      have h5a : i5 ≤ 100 := two_used hR5 (Nat.lt_of_le_of_lt (Nat.div_le_self _ _) hlt) (by omega)
      have h5b : l5 ≤ 100 := two_used hT5 (Nat.lt_of_le_of_lt (Nat.div_le_self _ _) hlt2) (by omega)
      have h5c := pow_up (j := 1000) (Nat.lt_of_le_of_lt (Nat.div_le_self (P0 * Q1) (Nat.gcd (P0 * Q1) (Q0 * P1))) hlt) (by omega)
      have hcr : (P0 * Q1) * (vD e0 * vN n1 e1) = (vN n0 e0 * vD e1) * (Q0 * P1) := div_cross HX.out.1 HX.out.2
      have HQQ := hide (And.intro hqq hcr)
      obtain ⟨G, hG⟩ : ∃ x, x = (((g0 && decide (n0 ≠ 0)) != (g1 && decide (n1 ≠ 0))) && decide (P0 * Q1 ≠ 0)) := ⟨_, rfl⟩
      rw [← hG]
      have HG := hide hG
      clear hlt hlt2 hqq hcr hG
      refine ⟨_, rfl, hS5, ?_⟩
      simp only [Act.put, List.setIfInBounds_toArray, List.set_cons_zero, List.set_cons_succ]
      refine held_call 10 (some 30) (by kernel_rfl) rfl rfl rfl 35 #[.agg (numC G i5 r5 l5 s5), .bool (g0 != g1)] (by go_simp) _ (real_any G (g0 != g1) w5 hR5 hT5 h5a h5b h5c (Nat.ne_of_gt (low_pos HQQ.out.1))) ?_
      rintro ed w6 ⟨⟨R, rfl, hR⟩, hW6⟩
      have hs6 : w5.heap.size ≤ w6.heap.size := hW6.size
      have hS6 : RowAt w6 (w.heap.size) 25 #[.bool g0, .int .i64 m0, .int .i64 e0] ∧ RowAt w6 (w.heap.size + 1) 25 #[.bool g1, .int .i64 m1, .int .i64 e1] := ⟨RowAt.below hS5.1 hW6 (by omega), RowAt.below hS5.2 hW6 (by omega)⟩
      have C6 := RowAt.below (RowAt.below (RowAt.below (RowAt.below (w := w2.drew) C2 hW3 (by show _ < w2.heap.size; omega)) hW4 (by omega)) hW5 (by omega)) hW6 (by omega)
      have hB6 : Below w.heap.size w w6 := (((hB2.drew.trans (hW3.mono (by show _ ≤ w2.heap.size; omega))).trans (hW4.mono (by omega))).trans (hW5.mono (by omega))).trans (hW6.mono (by omega))
      have hsg : (G || (decide ((P0 * Q1) / Nat.gcd (P0 * Q1) (Q0 * P1) = 0) && (g0 != g1))) = neg := by
        rw [HND.out.1, HG.out]
        by_cases hx : P0 * Q1 = 0
        · rw [hx]; simp
        · have h1 : (P0 * Q1) / Nat.gcd (P0 * Q1) (Q0 * P1) ≠ 0 := low_ne hx
          have hn0 : n0 ≠ 0 := fun h => hx (by rw [HZZ.out.1.1 h, Nat.zero_mul])
          have hn1 : n1 ≠ 0 := HN1.out
          rw [decide_eq_true hx, decide_eq_false h1, decide_eq_true hn0, decide_eq_true hn1]; simp
      rw [hsg]
      have HA : Hid (AnsS (true && true && decide (m1 ≠ 0)) neg NN DD (.returned (.tuple #[.agg #[.bool neg, .int .i64 (manOf R : Nat), .int .i64 (expOf R)], .bool true]))) := by
        refine .inr ⟨HFT.out, R, ?_, rfl⟩
        rw [HND.out.2.1, HND.out.2.2]
        exact (Near.low hR HQQ.out.1).move (Nat.pos_of_ne_zero HQQ.out.1) (Nat.mul_pos (Nat.pos_of_ne_zero (vD_ne e0)) (Nat.pos_of_ne_zero (fun h => HN1.out (vN_zero.1 h)))) HQQ.out.2
      refine ⟨_, rfl, hS6, ?_⟩
      simp only [Act.put, List.setIfInBounds_toArray, List.set_cons_zero, List.set_cons_succ]
      refine held_store_real 11 (by kernel_rfl) rfl rfl _ _ rfl rfl (w.heap.size + 1 + 1) neg (manOf R : Nat) (expOf R) rfl rfl false 0 0 C6 ?_
      intro w7 hR7 hg7 hs7
      have hS7 : RowAt w7 (w.heap.size) 25 #[.bool g0, .int .i64 m0, .int .i64 e0] ∧ RowAt w7 (w.heap.size + 1) 25 #[.bool g1, .int .i64 m1, .int .i64 e1] := ⟨RowAt.grown hS6.1 hg7 (by simp; omega), RowAt.grown hS6.2 hg7 (by simp)⟩
      refine ⟨hS7, ?_⟩
      refine held_assign 12 (some 5) (by kernel_rfl) rfl rfl _ rfl rfl (.bool true) rfl hS7 ?_
      simp only [Act.put, List.setIfInBounds_toArray, List.set_cons_zero, List.set_cons_succ]
      refine wpAnyH_done (by kernel_rfl) ?_ _
      refine NoPanic.normal ?_
      go_wp2
      exact bodyPost_ret (res_real_tmp Try.results28 _ _ (w.heap.size + 1 + 1) _ _ _ _ rfl rfl hR7) rfl ⟨HA.out, hB6.grown hg7 hB6.size (by intro k hk; cases hk; omega)⟩
end Go.Proofs.Ytoiegaggekgmjaa
