/-
  What minus of impl's nats answers.
-/
import Derived.Test.YtjgpjafndaikcaaDoorPlus
import Derived.Great.BuildSlice
namespace Go.Proofs.YtjgpjafndaikcaaDoor
open Go.RowKit
set_option linter.unusedVariables false

/-- m times the parts of q below j, moved up by u, taken from those of p. -/
def subTo (p q : List Int) (m : Int) (u : Nat) : Nat → List Int
  | 0 => p
  | j + 1 => (subTo p q m u j).set (u + j) ((subTo p q m u j).getD (u + j) 0 - m * q.getD j 0)

theorem subTo_len (p q : List Int) (m : Int) (u j : Nat) : (subTo p q m u j).length = p.length := by
  induction j with
  | zero => rfl
  | succ j ih => simp [subTo, ih]
theorem subTo_get (p q : List Int) (m : Int) (u j i : Nat) (hj : u + j ≤ p.length) : (subTo p q m u j).getD i 0 = if u ≤ i ∧ i < u + j then p.getD i 0 - m * q.getD (i - u) 0 else p.getD i 0 := by
  induction j with
  | zero => simp only [subTo]; rw [if_neg (by omega)]
  | succ j ih =>
    unfold subTo
    rw [getD_set _ _ _ _ (by rw [subTo_len]; omega)]
    by_cases e : i = u + j
    · subst e
      rw [if_pos rfl, ih (by omega), if_neg (by omega), if_pos (by omega)]
      rw [show u + j - u = j by omega]
    · rw [if_neg e, ih (by omega)]
      by_cases h : u ≤ i ∧ i < u + j
      · rw [if_pos h, if_pos (by omega)]
      · rw [if_neg h, if_neg (by omega)]
theorem subTo_val (B : Int) (p q : List Int) (m : Int) (u j : Nat) (hj : u + j ≤ p.length) (hq : j ≤ q.length) : vb B (subTo p q m u j) = vb B p - m * (B ^ u * vb B (q.take j)) := by
  induction j with
  | zero => simp [subTo, vb]
  | succ j ih =>
    unfold subTo
    rw [vb_set _ _ _ _ (by rw [subTo_len]; omega), ih (by omega) (by omega), List.take_succ_eq_append_getElem (by omega), vb_snoc]
    have : q.getD j 0 = q[j] := by simp [List.getD, show j < q.length by omega]
    rw [this, List.length_take, Nat.min_eq_left (by omega), Int.pow_add]
    have e : (subTo p q m u j).getD (u + j) 0 - m * q[j] - (subTo p q m u j).getD (u + j) 0 = -(m * q[j]) := by omega
    rw [e, Int.mul_add, Int.mul_add, Int.mul_neg]
    have e2 : B ^ u * B ^ j * (m * q[j]) = m * (B ^ u * (B ^ j * q[j])) := by
      rw [Int.mul_assoc, ← Int.mul_assoc (B ^ j) m, Int.mul_comm (B ^ j) m, Int.mul_assoc m, ← Int.mul_assoc (B ^ u) m, Int.mul_comm (B ^ u) m, Int.mul_assoc m]
    omega

theorem built_nat : Tryd.prog.built 35 [] = some (natC 0 zP) := by kernel_rfl

set_option maxHeartbeats 1000000 in
set_option maxRecDepth 100000 in
theorem minus_any {n m k j : Nat} {p q : List Int} (many : Int) (u : Nat) (w : World) (hP : Rep n k p) (hQ : Rep m j q) (hk : k ≤ 202) (huj : u + j ≤ 202) (hm0 : 0 ≤ many) (hm1 : many ≤ 2000000) :
    Calls Tryd.prog 51 #[.agg (natC k p), .agg (natC j q), .int .i64 many, .int .i64 (u : Int)] w fun e w' =>
      (∃ (i : Nat) (r : List Int) (x : Nat), e = .returned (.tuple #[.agg (natC i r), .bool true]) ∧ Rep x i r ∧ (x : Int) = (n : Int) - many * (1000000 ^ u * (m : Int)) ∧ Below w.heap.size w w') ∨
      (e = .returned (.tuple #[.agg (natC 0 zP), .bool false]) ∧ (n : Int) < many * (1000000 ^ u * (m : Int)) ∧ Below w.heap.size w w') := by
  have hz := zero_nat.1
  have hp := hP.len
  have hq := hQ.len
  have A := ((NatAt.new w k p).old (.cells (natC j q) 35)).old (.cells (natC 0 zP) 35)
  have B := (NatAt.new (w.alloc (.cells (natC k p) 35)) j q).old (.cells (natC 0 zP) 35)
  have C := NatAt.new ((w.alloc (.cells (natC k p) 35)).alloc (.cells (natC j q) 35)) 0 zP
  have hB : Below w.heap.size w (((w.alloc (.cells (natC k p) 35)).alloc (.cells (natC j q) 35)).alloc (.cells (natC 0 zP) 35)) := (((Below.refl _ _).alloc (Nat.le_refl _) _).alloc (by simp) _).alloc (by simp; omega) _
  simp only [World.size_alloc] at B C
  have b0 := B.c0
  have HP : Hid (Rep n k p) := hP
  have HQ : Hid (Rep m j q) := hQ
  clear hP hQ
  go_enter Tryd.func51, Tryd.ntmps51
  go_wp2
  go_loopg [13] j (fun g i wr => ∃ t : Nat, g = j - t ∧ t ≤ j ∧ i = .int .i64 (t : Int) ∧ NatAt wr w.heap.size k (subTo p q many u t) ∧ NatAt wr (w.heap.size + 1) j q ∧ NatAt wr (w.heap.size + 1 + 1) 0 zP ∧ Below w.heap.size w wr)
  case atStart => exact ⟨0, rfl, by omega, rfl, A, B, C, hB⟩
  case round =>
    obtain ⟨t, rfl, ht, rfl, hA, hQt, hC, hW⟩ := hrel
    clear A B C hB b0
    have hl : (subTo p q many u t).length = 204 := by rw [subTo_len]; exact hp
    by_cases hlt : (t : Int) < (j : Int)
    · obtain ⟨s, hs⟩ : ∃ s, s = u + t := ⟨_, rfl⟩
      have a1 := hA.cs s (by omega)
      have b1 := hQt.cs t (by omega)
      have hfr := hA.fr (1 + s)
      have ht2 : (t : Int) < 204 := by omega
      have hut : (s : Int) < 204 := by omega
      obtain ⟨x, hx⟩ : ∃ x, x = (subTo p q many u t).getD s 0 := ⟨_, rfl⟩
      obtain ⟨y, hy⟩ : ∃ y, y = q.getD t 0 := ⟨_, rfl⟩
      have hx0 : 0 ≤ x ∧ x < 1000000 := by
        rw [hx, subTo_get _ _ _ _ _ _ (by omega), if_neg (by omega)]; exact ⟨HP.out.lo _, HP.out.hi _⟩
      have hy0 : 0 ≤ y ∧ y < 1000000 := by rw [hy]; exact ⟨HQ.out.lo t, HQ.out.hi t⟩
      obtain ⟨hx0, hx1⟩ := hx0
      obtain ⟨hy0, hy1⟩ := hy0
      rw [← hx] at a1
      rw [← hy] at b1
      have HX : Hid (x = (subTo p q many u t).getD s 0 ∧ y = q.getD t 0 ∧ s = u + t) := ⟨hx, hy, hs⟩
      obtain ⟨z, hzz⟩ : ∃ z, many * y = z := ⟨_, rfl⟩
      have hz1 : 0 ≤ z := by rw [← hzz]; exact Int.mul_nonneg hm0 hy0
      have hz2 : z ≤ 2000000000000 := by
        rw [← hzz]
        have h1 : many * y ≤ 2000000 * y := Int.mul_le_mul_of_nonneg_right hm1 hy0
        omega
      have hwr : IntKind.i64.wrap ((u : Int) + (t : Int)) = (s : Int) := by rw [IntKind.wrap_i64]; omega
      have hwz : IntKind.i64.wrap z = z := by rw [IntKind.wrap_i64]; omega
      clear hx hy hs
      go_wp2_with fail
      refine wp_region_still_tail 15 (by kernel_rfl) (by kernel_rfl) ?_
      simp only [List.take_succ_cons, List.take_zero, List.drop_succ_cons, List.drop_zero]
      iterate 3 still_step
      try simp only [hwr]
      iterate 9 still_step
      try simp only [hzz, hwz]
      repeat still_step
      refine wpStill_nil ?_
      go_wp2
      go_roundg (j - (t + 1))
      case measure => omega
      case rel =>
        obtain ⟨hx, hy, hs⟩ := HX.out
        subst hs
        refine ⟨t + 1, rfl, by omega, by go_num, ?_, ?_, ?_, ?_⟩
        · have h1 : NatAt wr.drew w.heap.size k (subTo p q many u t) := hA
          have h2 := h1.setS (u + t) (x - z)
          show NatAt _ _ _ ((subTo p q many u t).set (u + t) ((subTo p q many u t).getD (u + t) 0 - many * q.getD t 0))
          rw [← hx, ← hy, hzz]
          exact h2
        · exact hQt.grown (grownBy_set (w := wr) (wr := wr.drew) ⟨rfl, rfl, rfl, Nat.le_refl _, fun _ _ _ => rfl⟩ _ _) (by simp)
        · exact hC.grown (grownBy_set (w := wr) (wr := wr.drew) ⟨rfl, rfl, rfl, Nat.le_refl _, fun _ _ _ => rfl⟩ _ _) (by simp; omega)
        · exact (hW.drew).setCell (by simp) _
    · have htj : t = j := by omega
      subst htj
      have a0 := hA.c0
      have b0 := hQt.c0
      have hfr := hA.fr 0
      have hbd : Hid (∀ i, -400000000000000 ≤ (subTo p q many u t).getD i 0 ∧ (subTo p q many u t).getD i 0 ≤ 400000000000000) := fun i => by
        rw [subTo_get _ _ _ _ _ _ (by omega)]
        have := HP.out.lo i; have := HP.out.hi i; have h3 := HQ.out.lo (i - u); have h4 := HQ.out.hi (i - u)
        have h5 : 0 ≤ many * q.getD (i - u) 0 := Int.mul_nonneg hm0 h3
        have h6 : many * q.getD (i - u) 0 ≤ 2000000 * q.getD (i - u) 0 := Int.mul_le_mul_of_nonneg_right hm1 h3
        split <;> omega
      have hout : Hid (∀ i, k ≤ i → u + t ≤ i → (subTo p q many u t).getD i 0 = 0) := fun i h1 h2 => by
        rw [subTo_get _ _ _ _ _ _ (by omega), if_neg (by omega)]; exact HP.out.out i h1
      have hval : Hid (vb 1000000 (subTo p q many u t) = (n : Int) - many * (1000000 ^ u * (m : Int))) := by
        unfold Hid
        rw [subTo_val _ _ _ _ _ _ (by omega) (by omega), vb_take_out _ _ _ (by omega) HQ.out.out, HP.out.val, HQ.out.val]
      have hWs := hW.size
      rcases Int.lt_trichotomy (k : Int) ((u : Int) + (t : Int)) with hkt | hkt | hkt
      · have hkk : k ≤ u + t := by omega
        have hA' := hA.set0 ((u : Int) + (t : Int))
        have hg' := grownBy_set (r0 wr) (b := w.heap.size) 0 (.int .i64 ((u : Int) + (t : Int)))
        have hQ' := hC.grown hg' (by simp; omega)
        have hW' := hW.setCell (p := ⟨w.heap.size, 0, none⟩) (Nat.le_refl _) (.int .i64 ((u : Int) + (t : Int)))
        go_wp2_with fail
        refine (carry_any w.heap.size (u + t) (subTo p q many u t) _ hl (by omega) hA' hbd.out (fun i hi => hout.out i (by omega) (by omega))).mono ?_
        rintro e w2 ⟨ok, i, r, rfl, hr, hN2, hg2, hs2, hcase⟩
        have hC2 := hQ'.grown hg2 (by simp; omega)
        have hW2 : Below w.heap.size w w2 := hW'.grown hg2 (by have := hW'.size; omega) (by intro k hk; cases hk; omega)
        have HCASE := hide hcase
        clear hA hQt hC hW hA' hg' hQ' hW' hg2 hs2 hcase a0 b0 hfr
        cases ok with
        | true =>
          go_wp2_with (first | (refine load_nat rfl _ rfl w.heap.size rfl i r hN2 hr ?_) | (refine store_nat rfl _ _ rfl rfl (w.heap.size + 1 + 1) i r rfl rfl 0 zP hC2 zP_len hr ?_; intro w3 hN3 hg3 hs3))
          refine bodyPost_ret (v := .tuple #[.agg (natC i r), .bool true]) (res_nat_tmp Tryd.results51 _ _ (w.heap.size + 1 + 1) _ _ _ rfl rfl hN3 hr) rfl ?_
          rcases HCASE.out with ⟨_, x, h1, h2⟩ | ⟨h, _⟩
          · exact .inl ⟨i, r, x, rfl, h2, by rw [← h1]; exact hval.out, hW2.grown hg3 (by have := hW2.size; omega) (by intro k hk; cases hk; omega)⟩
          · cases h
        | false =>
          go_wp2_with (first | (refine Great.wpList_buildTo rfl 35 #[] rfl _ rfl (natC 0 zP) built_nat ?_) | (refine store_nat rfl _ _ rfl rfl (w.heap.size + 1 + 1) 0 zP rfl rfl 0 zP hC2 zP_len zP_len ?_; intro w3 hN3 hg3 hs3))
          refine bodyPost_ret (v := .tuple #[.agg (natC 0 zP), .bool false]) (res_nat_tmp Tryd.results51 _ _ (w.heap.size + 1 + 1) _ _ _ rfl rfl hN3 zP_len) rfl ?_
          rcases HCASE.out with ⟨h, _⟩ | ⟨_, h1⟩
          · cases h
          · exact .inr ⟨rfl, by have := hval.out; omega, hW2.grown hg3 (by have := hW2.size; omega) (by intro k hk; cases hk; omega)⟩
      · have hkk : k = u + t := by omega
        have hA' := hA.set0 ((u : Int) + (t : Int))
        have hg' := grownBy_set (r0 wr) (b := w.heap.size) 0 (.int .i64 ((u : Int) + (t : Int)))
        have hQ' := hC.grown hg' (by simp; omega)
        have hW' := hW.setCell (p := ⟨w.heap.size, 0, none⟩) (Nat.le_refl _) (.int .i64 ((u : Int) + (t : Int)))
        go_wp2_with fail
        refine (carry_any w.heap.size (u + t) (subTo p q many u t) _ hl (by omega) hA' hbd.out (fun i hi => hout.out i (by omega) (by omega))).mono ?_
        rintro e w2 ⟨ok, i, r, rfl, hr, hN2, hg2, hs2, hcase⟩
        have hC2 := hQ'.grown hg2 (by simp; omega)
        have hW2 : Below w.heap.size w w2 := hW'.grown hg2 (by have := hW'.size; omega) (by intro k hk; cases hk; omega)
        have HCASE := hide hcase
        clear hA hQt hC hW hA' hg' hQ' hW' hg2 hs2 hcase a0 b0 hfr
        cases ok with
        | true =>
          go_wp2_with (first | (refine load_nat rfl _ rfl w.heap.size rfl i r hN2 hr ?_) | (refine store_nat rfl _ _ rfl rfl (w.heap.size + 1 + 1) i r rfl rfl 0 zP hC2 zP_len hr ?_; intro w3 hN3 hg3 hs3))
          refine bodyPost_ret (v := .tuple #[.agg (natC i r), .bool true]) (res_nat_tmp Tryd.results51 _ _ (w.heap.size + 1 + 1) _ _ _ rfl rfl hN3 hr) rfl ?_
          rcases HCASE.out with ⟨_, x, h1, h2⟩ | ⟨h, _⟩
          · exact .inl ⟨i, r, x, rfl, h2, by rw [← h1]; exact hval.out, hW2.grown hg3 (by have := hW2.size; omega) (by intro k hk; cases hk; omega)⟩
          · cases h
        | false =>
          go_wp2_with (first | (refine Great.wpList_buildTo rfl 35 #[] rfl _ rfl (natC 0 zP) built_nat ?_) | (refine store_nat rfl _ _ rfl rfl (w.heap.size + 1 + 1) 0 zP rfl rfl 0 zP hC2 zP_len zP_len ?_; intro w3 hN3 hg3 hs3))
          refine bodyPost_ret (v := .tuple #[.agg (natC 0 zP), .bool false]) (res_nat_tmp Tryd.results51 _ _ (w.heap.size + 1 + 1) _ _ _ rfl rfl hN3 zP_len) rfl ?_
          rcases HCASE.out with ⟨h, _⟩ | ⟨_, h1⟩
          · cases h
          · exact .inr ⟨rfl, by have := hval.out; omega, hW2.grown hg3 (by have := hW2.size; omega) (by intro k hk; cases hk; omega)⟩
      · have hkk : u + t ≤ k := by omega
        have hA' := hA.set0 ((k : Int))
        have hg' := grownBy_set (r0 wr) (b := w.heap.size) 0 (.int .i64 ((k : Int)))
        have hQ' := hC.grown hg' (by simp; omega)
        have hW' := hW.setCell (p := ⟨w.heap.size, 0, none⟩) (Nat.le_refl _) (.int .i64 ((k : Int)))
        go_wp2_with fail
        refine (carry_any w.heap.size (k) (subTo p q many u t) _ hl (by omega) hA' hbd.out (fun i hi => hout.out i (by omega) (by omega))).mono ?_
        rintro e w2 ⟨ok, i, r, rfl, hr, hN2, hg2, hs2, hcase⟩
        have hC2 := hQ'.grown hg2 (by simp; omega)
        have hW2 : Below w.heap.size w w2 := hW'.grown hg2 (by have := hW'.size; omega) (by intro k hk; cases hk; omega)
        have HCASE := hide hcase
        clear hA hQt hC hW hA' hg' hQ' hW' hg2 hs2 hcase a0 b0 hfr
        cases ok with
        | true =>
          go_wp2_with (first | (refine load_nat rfl _ rfl w.heap.size rfl i r hN2 hr ?_) | (refine store_nat rfl _ _ rfl rfl (w.heap.size + 1 + 1) i r rfl rfl 0 zP hC2 zP_len hr ?_; intro w3 hN3 hg3 hs3))
          refine bodyPost_ret (v := .tuple #[.agg (natC i r), .bool true]) (res_nat_tmp Tryd.results51 _ _ (w.heap.size + 1 + 1) _ _ _ rfl rfl hN3 hr) rfl ?_
          rcases HCASE.out with ⟨_, x, h1, h2⟩ | ⟨h, _⟩
          · exact .inl ⟨i, r, x, rfl, h2, by rw [← h1]; exact hval.out, hW2.grown hg3 (by have := hW2.size; omega) (by intro k hk; cases hk; omega)⟩
          · cases h
        | false =>
          go_wp2_with (first | (refine Great.wpList_buildTo rfl 35 #[] rfl _ rfl (natC 0 zP) built_nat ?_) | (refine store_nat rfl _ _ rfl rfl (w.heap.size + 1 + 1) 0 zP rfl rfl 0 zP hC2 zP_len zP_len ?_; intro w3 hN3 hg3 hs3))
          refine bodyPost_ret (v := .tuple #[.agg (natC 0 zP), .bool false]) (res_nat_tmp Tryd.results51 _ _ (w.heap.size + 1 + 1) _ _ _ rfl rfl hN3 zP_len) rfl ?_
          rcases HCASE.out with ⟨h, _⟩ | ⟨_, h1⟩
          · cases h
          · exact .inr ⟨rfl, by have := hval.out; omega, hW2.grown hg3 (by have := hW2.size; omega) (by intro k hk; cases hk; omega)⟩
end Go.Proofs.YtjgpjafndaikcaaDoor
