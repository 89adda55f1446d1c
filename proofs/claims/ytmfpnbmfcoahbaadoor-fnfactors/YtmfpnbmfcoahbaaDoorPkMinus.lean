/-
  The texts Minus, NatOf, Times, TimesSmall, ReadDigits, one behind the other.
-/
import Derived.Test.YtmfpnbmfcoahbaaDoorPkRead
import Derived.Great.BuildSlice
import Derived.Test.YtmfpnbmfcoahbaaDoorPkLehmer

/-
  What minus of impl's nats answers.
-/
namespace Go.Proofs.YtmfpnbmfcoahbaaDoor
open Go.RowKit
set_option linter.unusedVariables false

/-- m times the parts of q below j, moved up by u, taken from those of p. -/
def subTo (p q : List Int) (m : Int) (u : Nat) : Nat → List Int
  | 0 => p
  | j + 1 => (subTo p q m u j).set (u + j) ((subTo p q m u j).getD (u + j) 0 - m * q.getD j 0)

theorem subTo_len (p q : List Int) (m : Int) (u j : Nat) : (subTo p q m u j).length = p.length := by
  induction j with
  | zero => rfl
  | succ j ih => simp [subTo, ih]
theorem subTo_get (p q : List Int) (m : Int) (u j i : Nat) (hj : u + j ≤ p.length) : (subTo p q m u j).getD i 0 = if u ≤ i ∧ i < u + j then p.getD i 0 - m * q.getD (i - u) 0 else p.getD i 0 := by
  induction j with
  | zero => simp only [subTo]; rw [if_neg (by omega)]
  | succ j ih =>
    unfold subTo
    rw [getD_set _ _ _ _ (by rw [subTo_len]; omega)]
    by_cases e : i = u + j
    · subst e
      rw [if_pos rfl, ih (by omega), if_neg (by omega), if_pos (by omega)]
      rw [show u + j - u = j by omega]
    · rw [if_neg e, ih (by omega)]
      by_cases h : u ≤ i ∧ i < u + j
      · rw [if_pos h, if_pos (by omega)]
      · rw [if_neg h, if_neg (by omega)]
theorem subTo_val (B : Int) (p q : List Int) (m : Int) (u j : Nat) (hj : u + j ≤ p.length) (hq : j ≤ q.length) : vb B (subTo p q m u j) = vb B p - m * (B ^ u * vb B (q.take j)) := by
  induction j with
  | zero => simp [subTo, vb]
  | succ j ih =>
    unfold subTo
    rw [vb_set _ _ _ _ (by rw [subTo_len]; omega), ih (by omega) (by omega), List.take_succ_eq_append_getElem (by omega), vb_snoc]
    have : q.getD j 0 = q[j] := by simp [List.getD, show j < q.length by omega]
    rw [this, List.length_take, Nat.min_eq_left (by omega), Int.pow_add]
    have e : (subTo p q m u j).getD (u + j) 0 - m * q[j] - (subTo p q m u j).getD (u + j) 0 = -(m * q[j]) := by omega
    rw [e, Int.mul_add, Int.mul_add, Int.mul_neg]
    have e2 : B ^ u * B ^ j * (m * q[j]) = m * (B ^ u * (B ^ j * q[j])) := by
      rw [Int.mul_assoc, ← Int.mul_assoc (B ^ j) m, Int.mul_comm (B ^ j) m, Int.mul_assoc m, ← Int.mul_assoc (B ^ u) m, Int.mul_comm (B ^ u) m, Int.mul_assoc m]
    omega

theorem built_nat : Tryd.prog.built 46 [] = some (natC 0 zP) := by kernel_rfl

set_option maxHeartbeats 1000000 in
set_option maxRecDepth 100000 in
theorem minus_any {n m k j : Nat} {p q : List Int} (many : Int) (u : Nat) (w : World) (hP : Rep n k p) (hQ : Rep m j q) (hk : k ≤ 202) (huj : u + j ≤ 202) (hm0 : 0 ≤ many) (hm1 : many ≤ 2000000) :
    Calls Tryd.prog 24 #[.agg (natC k p), .agg (natC j q), .int .i64 many, .int .i64 (u : Int)] w fun e w' =>
      (∃ (i : Nat) (r : List Int) (x : Nat), e = .returned (.tuple #[.agg (natC i r), .bool true]) ∧ Rep x i r ∧ (x : Int) = (n : Int) - many * (1000000 ^ u * (m : Int)) ∧ Below w.heap.size w w') ∨
      (e = .returned (.tuple #[.agg (natC 0 zP), .bool false]) ∧ (n : Int) < many * (1000000 ^ u * (m : Int)) ∧ Below w.heap.size w w') := by
  have hz := zero_nat.1
  have hp := hP.len
  have hq := hQ.len
  have A := ((NatAt.new w k p).old (.cells (natC j q) 46)).old (.cells (natC 0 zP) 46)
  have B := (NatAt.new (w.alloc (.cells (natC k p) 46)) j q).old (.cells (natC 0 zP) 46)
  have C := NatAt.new ((w.alloc (.cells (natC k p) 46)).alloc (.cells (natC j q) 46)) 0 zP
  have hB : Below w.heap.size w (((w.alloc (.cells (natC k p) 46)).alloc (.cells (natC j q) 46)).alloc (.cells (natC 0 zP) 46)) := (((Below.refl _ _).alloc (Nat.le_refl _) _).alloc (by simp) _).alloc (by simp; omega) _
  simp only [World.size_alloc] at B C
  have b0 := B.c0
  have HP : Hid (Rep n k p) := hP
  have HQ : Hid (Rep m j q) := hQ
  clear hP hQ
  go_enter Tryd.func24, Tryd.ntmps24
  go_wp2
  go_loopg [13] j (fun g i wr => ∃ t : Nat, g = j - t ∧ t ≤ j ∧ i = .int .i64 (t : Int) ∧ NatAt wr w.heap.size k (subTo p q many u t) ∧ NatAt wr (w.heap.size + 1) j q ∧ NatAt wr (w.heap.size + 1 + 1) 0 zP ∧ Below w.heap.size w wr)
  case atStart => exact ⟨0, rfl, by omega, rfl, A, B, C, hB⟩
  case round =>
    obtain ⟨t, rfl, ht, rfl, hA, hQt, hC, hW⟩ := hrel
    clear A B C hB b0
    have hl : (subTo p q many u t).length = 204 := by rw [subTo_len]; exact hp
    by_cases hlt : (t : Int) < (j : Int)
    · obtain ⟨s, hs⟩ : ∃ s, s = u + t := ⟨_, rfl⟩
      have a1 := hA.cs s (by omega)
      have b1 := hQt.cs t (by omega)
      have hfr := hA.fr (1 + s)
      have ht2 : (t : Int) < 204 := by omega
      have hut : (s : Int) < 204 := by omega
      obtain ⟨x, hx⟩ : ∃ x, x = (subTo p q many u t).getD s 0 := ⟨_, rfl⟩
      obtain ⟨y, hy⟩ : ∃ y, y = q.getD t 0 := ⟨_, rfl⟩
      have hx0 : 0 ≤ x ∧ x < 1000000 := by
        rw [hx, subTo_get _ _ _ _ _ _ (by omega), if_neg (by omega)]; exact ⟨HP.out.lo _, HP.out.hi _⟩
      have hy0 : 0 ≤ y ∧ y < 1000000 := by rw [hy]; exact ⟨HQ.out.lo t, HQ.out.hi t⟩
      obtain ⟨hx0, hx1⟩ := hx0
      obtain ⟨hy0, hy1⟩ := hy0
      rw [← hx] at a1
      rw [← hy] at b1
      have HX : Hid (x = (subTo p q many u t).getD s 0 ∧ y = q.getD t 0 ∧ s = u + t) := ⟨hx, hy, hs⟩
      obtain ⟨z, hzz⟩ : ∃ z, many * y = z := ⟨_, rfl⟩
      have hz1 : 0 ≤ z := by rw [← hzz]; exact Int.mul_nonneg hm0 hy0
      have hz2 : z ≤ 2000000000000 := by
        rw [← hzz]
        have h1 : many * y ≤ 2000000 * y := Int.mul_le_mul_of_nonneg_right hm1 hy0
        omega
      have hwr : IntKind.i64.wrap ((u : Int) + (t : Int)) = (s : Int) := by rw [IntKind.wrap_i64]; omega
      have hwz : IntKind.i64.wrap z = z := by rw [IntKind.wrap_i64]; omega
      clear hx hy hs
      go_wp2_with fail
      refine wp_region_still_tail 15 (by kernel_rfl) (by kernel_rfl) ?_
      simp only [List.take_succ_cons, List.take_zero, List.drop_succ_cons, List.drop_zero]
      iterate 3 still_step
      try simp only [hwr]
      iterate 9 still_step
      try simp only [hzz, hwz]
      repeat still_step
      refine wpStill_nil ?_
      go_wp2
      go_roundg (j - (t + 1))
      case measure => omega
      case rel =>
        obtain ⟨hx, hy, hs⟩ := HX.out
        subst hs
        refine ⟨t + 1, rfl, by omega, by go_num, ?_, ?_, ?_, ?_⟩
        · have h1 : NatAt wr.drew w.heap.size k (subTo p q many u t) := hA
          have h2 := h1.setS (u + t) (x - z)
          show NatAt _ _ _ ((subTo p q many u t).set (u + t) ((subTo p q many u t).getD (u + t) 0 - many * q.getD t 0))
          rw [← hx, ← hy, hzz]
          exact h2
        · exact hQt.grown (grownBy_set (w := wr) (wr := wr.drew) ⟨rfl, rfl, rfl, Nat.le_refl _, fun _ _ _ => rfl⟩ _ _) (by simp)
        · exact hC.grown (grownBy_set (w := wr) (wr := wr.drew) ⟨rfl, rfl, rfl, Nat.le_refl _, fun _ _ _ => rfl⟩ _ _) (by simp; omega)
        · exact (hW.drew).setCell (by simp) _
    · have htj : t = j := by omega
      subst htj
      have a0 := hA.c0
      have b0 := hQt.c0
      have hfr := hA.fr 0
      have hbd : Hid (∀ i, -400000000000000 ≤ (subTo p q many u t).getD i 0 ∧ (subTo p q many u t).getD i 0 ≤ 400000000000000) := fun i => by
        rw [subTo_get _ _ _ _ _ _ (by omega)]
        have := HP.out.lo i; have := HP.out.hi i; have h3 := HQ.out.lo (i - u); have h4 := HQ.out.hi (i - u)
        have h5 : 0 ≤ many * q.getD (i - u) 0 := Int.mul_nonneg hm0 h3
        have h6 : many * q.getD (i - u) 0 ≤ 2000000 * q.getD (i - u) 0 := Int.mul_le_mul_of_nonneg_right hm1 h3
        split <;> omega
      have hout : Hid (∀ i, k ≤ i → u + t ≤ i → (subTo p q many u t).getD i 0 = 0) := fun i h1 h2 => by
        rw [subTo_get _ _ _ _ _ _ (by omega), if_neg (by omega)]; exact HP.out.out i h1
      have hval : Hid (vb 1000000 (subTo p q many u t) = (n : Int) - many * (1000000 ^ u * (m : Int))) := by
        unfold Hid
        rw [subTo_val _ _ _ _ _ _ (by omega) (by omega), vb_take_out _ _ _ (by omega) HQ.out.out, HP.out.val, HQ.out.val]
      have hWs := hW.size
      rcases Int.lt_trichotomy (k : Int) ((u : Int) + (t : Int)) with hkt | hkt | hkt
      · have hkk : k ≤ u + t := by omega
        have hA' := hA.set0 ((u : Int) + (t : Int))
        have hg' := grownBy_set (r0 wr) (b := w.heap.size) 0 (.int .i64 ((u : Int) + (t : Int)))
        have hQ' := hC.grown hg' (by simp; omega)
        have hW' := hW.setCell (p := ⟨w.heap.size, 0, none⟩) (Nat.le_refl _) (.int .i64 ((u : Int) + (t : Int)))
        go_wp2_with fail
        refine (carry_any w.heap.size (u + t) (subTo p q many u t) _ hl (by omega) hA' hbd.out (fun i hi => hout.out i (by omega) (by omega))).mono ?_
        rintro e w2 ⟨ok, i, r, rfl, hr, hN2, hg2, hs2, hcase⟩
        have hC2 := hQ'.grown hg2 (by simp; omega)
        have hW2 : Below w.heap.size w w2 := hW'.grown hg2 (by have := hW'.size; omega) (by intro k hk; cases hk; omega)
        have HCASE := hide hcase
        clear hA hQt hC hW hA' hg' hQ' hW' hg2 hs2 hcase a0 b0 hfr
        cases ok with
        | true =>
          go_wp2_with (first | (refine load_nat rfl _ rfl w.heap.size rfl i r hN2 hr ?_) | (refine store_nat rfl _ _ rfl rfl (w.heap.size + 1 + 1) i r rfl rfl 0 zP hC2 zP_len hr ?_; intro w3 hN3 hg3 hs3))
          refine bodyPost_ret (v := .tuple #[.agg (natC i r), .bool true]) (res_nat_tmp Tryd.results24 _ _ (w.heap.size + 1 + 1) _ _ _ rfl rfl hN3 hr) rfl ?_
          rcases HCASE.out with ⟨_, x, h1, h2⟩ | ⟨h, _⟩
          · exact .inl ⟨i, r, x, rfl, h2, by rw [← h1]; exact hval.out, hW2.grown hg3 (by have := hW2.size; omega) (by intro k hk; cases hk; omega)⟩
          · cases h
        | false =>
          go_wp2_with (first | (refine Great.wpList_buildTo rfl 46 #[] rfl _ rfl (natC 0 zP) built_nat ?_) | (refine store_nat rfl _ _ rfl rfl (w.heap.size + 1 + 1) 0 zP rfl rfl 0 zP hC2 zP_len zP_len ?_; intro w3 hN3 hg3 hs3))
          refine bodyPost_ret (v := .tuple #[.agg (natC 0 zP), .bool false]) (res_nat_tmp Tryd.results24 _ _ (w.heap.size + 1 + 1) _ _ _ rfl rfl hN3 zP_len) rfl ?_
          rcases HCASE.out with ⟨h, _⟩ | ⟨_, h1⟩
          · cases h
          · exact .inr ⟨rfl, by have := hval.out; omega, hW2.grown hg3 (by have := hW2.size; omega) (by intro k hk; cases hk; omega)⟩
      · have hkk : k = u + t := by omega
        have hA' := hA.set0 ((u : Int) + (t : Int))
        have hg' := grownBy_set (r0 wr) (b := w.heap.size) 0 (.int .i64 ((u : Int) + (t : Int)))
        have hQ' := hC.grown hg' (by simp; omega)
        have hW' := hW.setCell (p := ⟨w.heap.size, 0, none⟩) (Nat.le_refl _) (.int .i64 ((u : Int) + (t : Int)))
        go_wp2_with fail
        refine (carry_any w.heap.size (u + t) (subTo p q many u t) _ hl (by omega) hA' hbd.out (fun i hi => hout.out i (by omega) (by omega))).mono ?_
        rintro e w2 ⟨ok, i, r, rfl, hr, hN2, hg2, hs2, hcase⟩
        have hC2 := hQ'.grown hg2 (by simp; omega)
        have hW2 : Below w.heap.size w w2 := hW'.grown hg2 (by have := hW'.size; omega) (by intro k hk; cases hk; omega)
        have HCASE := hide hcase
        clear hA hQt hC hW hA' hg' hQ' hW' hg2 hs2 hcase a0 b0 hfr
        cases ok with
        | true =>
          go_wp2_with (first | (refine load_nat rfl _ rfl w.heap.size rfl i r hN2 hr ?_) | (refine store_nat rfl _ _ rfl rfl (w.heap.size + 1 + 1) i r rfl rfl 0 zP hC2 zP_len hr ?_; intro w3 hN3 hg3 hs3))
          refine bodyPost_ret (v := .tuple #[.agg (natC i r), .bool true]) (res_nat_tmp Tryd.results24 _ _ (w.heap.size + 1 + 1) _ _ _ rfl rfl hN3 hr) rfl ?_
          rcases HCASE.out with ⟨_, x, h1, h2⟩ | ⟨h, _⟩
          · exact .inl ⟨i, r, x, rfl, h2, by rw [← h1]; exact hval.out, hW2.grown hg3 (by have := hW2.size; omega) (by intro k hk; cases hk; omega)⟩
          · cases h
        | false =>
          go_wp2_with (first | (refine Great.wpList_buildTo rfl 46 #[] rfl _ rfl (natC 0 zP) built_nat ?_) | (refine store_nat rfl _ _ rfl rfl (w.heap.size + 1 + 1) 0 zP rfl rfl 0 zP hC2 zP_len zP_len ?_; intro w3 hN3 hg3 hs3))
          refine bodyPost_ret (v := .tuple #[.agg (natC 0 zP), .bool false]) (res_nat_tmp Tryd.results24 _ _ (w.heap.size + 1 + 1) _ _ _ rfl rfl hN3 zP_len) rfl ?_
          rcases HCASE.out with ⟨h, _⟩ | ⟨_, h1⟩
          · cases h
          · exact .inr ⟨rfl, by have := hval.out; omega, hW2.grown hg3 (by have := hW2.size; omega) (by intro k hk; cases hk; omega)⟩
      · have hkk : u + t ≤ k := by omega
        have hA' := hA.set0 ((k : Int))
        have hg' := grownBy_set (r0 wr) (b := w.heap.size) 0 (.int .i64 ((k : Int)))
        have hQ' := hC.grown hg' (by simp; omega)
        have hW' := hW.setCell (p := ⟨w.heap.size, 0, none⟩) (Nat.le_refl _) (.int .i64 ((k : Int)))
        go_wp2_with fail
        refine (carry_any w.heap.size (k) (subTo p q many u t) _ hl (by omega) hA' hbd.out (fun i hi => hout.out i (by omega) (by omega))).mono ?_
        rintro e w2 ⟨ok, i, r, rfl, hr, hN2, hg2, hs2, hcase⟩
        have hC2 := hQ'.grown hg2 (by simp; omega)
        have hW2 : Below w.heap.size w w2 := hW'.grown hg2 (by have := hW'.size; omega) (by intro k hk; cases hk; omega)
        have HCASE := hide hcase
        clear hA hQt hC hW hA' hg' hQ' hW' hg2 hs2 hcase a0 b0 hfr
        cases ok with
        | true =>
          go_wp2_with (first | (refine load_nat rfl _ rfl w.heap.size rfl i r hN2 hr ?_) | (refine store_nat rfl _ _ rfl rfl (w.heap.size + 1 + 1) i r rfl rfl 0 zP hC2 zP_len hr ?_; intro w3 hN3 hg3 hs3))
          refine bodyPost_ret (v := .tuple #[.agg (natC i r), .bool true]) (res_nat_tmp Tryd.results24 _ _ (w.heap.size + 1 + 1) _ _ _ rfl rfl hN3 hr) rfl ?_
          rcases HCASE.out with ⟨_, x, h1, h2⟩ | ⟨h, _⟩
          · exact .inl ⟨i, r, x, rfl, h2, by rw [← h1]; exact hval.out, hW2.grown hg3 (by have := hW2.size; omega) (by intro k hk; cases hk; omega)⟩
          · cases h
        | false =>
          go_wp2_with (first | (refine Great.wpList_buildTo rfl 46 #[] rfl _ rfl (natC 0 zP) built_nat ?_) | (refine store_nat rfl _ _ rfl rfl (w.heap.size + 1 + 1) 0 zP rfl rfl 0 zP hC2 zP_len zP_len ?_; intro w3 hN3 hg3 hs3))
          refine bodyPost_ret (v := .tuple #[.agg (natC 0 zP), .bool false]) (res_nat_tmp Tryd.results24 _ _ (w.heap.size + 1 + 1) _ _ _ rfl rfl hN3 zP_len) rfl ?_
          rcases HCASE.out with ⟨h, _⟩ | ⟨_, h1⟩
          · cases h
          · exact .inr ⟨rfl, by have := hval.out; omega, hW2.grown hg3 (by have := hW2.size; omega) (by intro k hk; cases hk; omega)⟩
end Go.Proofs.YtmfpnbmfcoahbaaDoor

/-
  What natOf of impl answers: a nat of an int that is not below 0.
-/
namespace Go.Proofs.YtmfpnbmfcoahbaaDoor
open Go.RowKit
set_option linter.unusedVariables false

theorem built_nat1 : Tryd.prog.built 46 [(0, .int .i64 1)] = some (natC 1 zP) := by kernel_rfl

theorem set_zP (s : Int) (i : Nat) : (zP.set 0 s).getD i 0 = if i = 0 then s else 0 := by
  rw [getD_set _ _ _ _ (by rw [zP_len]; decide), zP_get]

set_option maxHeartbeats 1000000 in
set_option maxRecDepth 100000 in
theorem natOf_big (S : Nat) (s : Int) (w : World) (hS : s = (S : Int)) (hs0 : 0 ≤ s) (hs1 : s ≤ 999999999999999999) :
    Calls Tryd.prog 36 #[.int .i64 s] w fun e w' => ∃ (i : Nat) (r : List Int), e = .returned (.agg (natC i r)) ∧ Rep S i r ∧ Below w.heap.size w w' := by
  have hz := zero_nat.1
  have HS := hide hS
  clear hS
  have A := (NatAt.new w 0 zP).old (.cells (natC 0 zP) 46)
  have B := NatAt.new (w.alloc (.cells (natC 0 zP) 46)) 0 zP
  have hB : Below w.heap.size w ((w.alloc (.cells (natC 0 zP) 46)).alloc (.cells (natC 0 zP) 46)) := ((Below.refl _ _).alloc (Nat.le_refl _) _).alloc (by simp) _
  simp only [World.size_alloc] at B
  go_enter Tryd.func36, Tryd.ntmps36
  go_wp2_with (first | (refine Great.wpList_buildTo rfl 46 #[(0, .const (.int .i64 1))] rfl _ rfl (natC 1 zP) built_nat1 ?_) | (refine store_nat rfl _ _ rfl rfl (w.heap.size + 1) 1 zP rfl rfl 0 zP B zP_len zP_len ?_; intro w2 hN2 hg2 hs2; have hfr := hN2.fr 1; have c1 : w2.cell? ⟨w.heap.size + 1, 1, none⟩ = some (.int .i64 (zP.getD 0 0)) := hN2.cs 0 (by rw [zP_len]; decide)))
  have hN3 := hN2.setS 0 s
  have A3 := (A.grown hg2 (by simp)).grown (grownBy_set (r0 w2) (b := w.heap.size + 1) (1 + 0) (.int .i64 s)) (by simp)
  have hB3 : Below w.heap.size w (w2.setCell ⟨w.heap.size + 1, 1 + 0, none⟩ (.int .i64 s)) := (hB.grown hg2 (by simp; omega) (by intro k hk; cases hk; omega)).setCell (by simp) _
  refine (carry_big (w.heap.size + 1) 1 (zP.set 0 s) _ (by simp [zP_len]) (by decide) hN3 (fun i => by rw [set_zP]; split <;> (refine ⟨by omega, by omega, fun h => by omega⟩)) (fun i hi => by rw [set_zP, if_neg (by omega)])).mono ?_
  rintro e w4 ⟨ok, i, r, rfl, hr, hN4, hg4, hs4, hcase⟩
  have hv : vb 1000000 (zP.set 0 s) = s := by
    rw [vb_set _ _ _ _ (by rw [zP_len]; decide), vb_zero _ _ zP_get, zP_get]; simp
  have hR : Rep S i r := by
    rw [hv] at hcase
    have := HS.out
    rcases hcase with ⟨_, x, h1, h2⟩ | ⟨_, h⟩
    · have : x = S := by omega
      rw [← this]; exact h2
    · omega
  have HR := hide hR
  have A4 := A3.grown hg4 (by simp)
  have hs3 := hB3.size
  have hB4 : Below w.heap.size w w4 := hB3.grown hg4 (by omega) (by intro k hk; cases hk; omega)
  clear hR hcase hv A B hB hN2 hg2 hs2 hfr c1 hN3 A3 hB3 hg4 hs4
  go_wp2_with (first | (refine load_nat rfl _ rfl (w.heap.size + 1) rfl i r hN4 hr ?_) | (refine store_nat rfl _ _ rfl rfl w.heap.size i r rfl rfl 0 zP A4 zP_len hr ?_; intro w5 hN5 hg5 hs5))
  refine bodyPost_ret (v := .agg (natC i r)) (res_nat Tryd.results36 _ _ w.heap.size _ _ rfl hN5 hr) rfl ⟨i, r, rfl, HR.out, ?_⟩
  exact hB4.grown hg5 (by have := hB4.size; omega) (by intro k hk; cases hk; omega)

theorem natOf_any (S : Nat) (s : Int) (w : World) (hS : s = (S : Int)) (hs0 : 0 ≤ s) (hs1 : s ≤ 400000000000000) :
    Calls Tryd.prog 36 #[.int .i64 s] w fun e w' => ∃ (i : Nat) (r : List Int), e = .returned (.agg (natC i r)) ∧ Rep S i r ∧ Below w.heap.size w w' :=
  natOf_big S s w hS hs0 (by omega)
end Go.Proofs.YtmfpnbmfcoahbaaDoor

/-
  What times of impl's nats answers.
-/
namespace Go.Proofs.YtmfpnbmfcoahbaaDoor
open Go.RowKit
set_option linter.unusedVariables false

/-- The products of the parts of p below i with those of q below j, added up from Z on. -/
def rowsTo (Z p q : List Int) (j : Nat) : Nat → List Int
  | 0 => Z
  | i + 1 => subTo (rowsTo Z p q j i) q (-(p.getD i 0)) i j

theorem rowsTo_len (Z p q : List Int) (j i : Nat) : (rowsTo Z p q j i).length = Z.length := by
  induction i with
  | zero => rfl
  | succ i ih => simp [rowsTo, subTo_len, ih]

theorem subTo_add (p q : List Int) (m : Int) (u j i : Nat) (hj : u + j ≤ p.length) : (subTo p q (-m) u j).getD i 0 = if u ≤ i ∧ i < u + j then p.getD i 0 + m * q.getD (i - u) 0 else p.getD i 0 := by
  rw [subTo_get _ _ _ _ _ _ hj]
  split
  · rw [Int.neg_mul]; omega
  · rfl

theorem mul_bd {x y B : Int} (hx : 0 ≤ x) (hx1 : x < B) (hy : 0 ≤ y) (hy1 : y < B) : 0 ≤ x * y ∧ x * y ≤ B * B := by
  refine ⟨Int.mul_nonneg hx hy, ?_⟩
  have h1 : x * y ≤ B * y := Int.mul_le_mul_of_nonneg_right (by omega) hy
  have h2 : B * y ≤ B * B := Int.mul_le_mul_of_nonneg_left (by omega) (by omega)
  omega

/-- Bounds while a row is being added. -/
theorem part_bd (Z p q : List Int) (B : Int) (j i t x : Nat) (hB : 0 < B) (hZ : ∀ x, Z.getD x 0 = 0) (hp : ∀ x, 0 ≤ p.getD x 0 ∧ p.getD x 0 < B) (hq : ∀ x, 0 ≤ q.getD x 0 ∧ q.getD x 0 < B) (hlen : i + j ≤ Z.length) (ht : i + t ≤ Z.length)
    (ih : ∀ x, 0 ≤ (rowsTo Z p q j i).getD x 0 ∧ (rowsTo Z p q j i).getD x 0 ≤ (i : Int) * (B * B)) :
    0 ≤ (subTo (rowsTo Z p q j i) q (-(p.getD i 0)) i t).getD x 0 ∧ (subTo (rowsTo Z p q j i) q (-(p.getD i 0)) i t).getD x 0 ≤ ((i + 1 : Nat) : Int) * (B * B) := by
  rw [subTo_add _ _ _ _ _ _ (by rw [rowsTo_len]; exact ht)]
  have h1 := ih x
  have h2 := hp i
  have h3 := hq (x - i)
  have h4 := mul_bd h2.1 h2.2 h3.1 h3.2
  have h5 : 0 ≤ B * B := Int.mul_nonneg (by omega) (by omega)
  have e : ((i + 1 : Nat) : Int) * (B * B) = (i : Int) * (B * B) + B * B := by rw [Int.natCast_add, Int.add_mul]; simp
  split <;> omega

theorem rowsTo_bd (Z p q : List Int) (B : Int) (j i : Nat) (hB : 0 < B) (hZ : ∀ x, Z.getD x 0 = 0) (hp : ∀ x, 0 ≤ p.getD x 0 ∧ p.getD x 0 < B) (hq : ∀ x, 0 ≤ q.getD x 0 ∧ q.getD x 0 < B) (hlen : i + j ≤ Z.length) :
    ∀ x, 0 ≤ (rowsTo Z p q j i).getD x 0 ∧ (rowsTo Z p q j i).getD x 0 ≤ (i : Int) * (B * B) := by
  induction i with
  | zero => intro x; simp only [rowsTo]; rw [hZ x]; simp
  | succ i ih => intro x; exact part_bd Z p q B j i j x hB hZ hp hq (by omega) (by omega) (ih (by omega))

theorem rowsTo_zero (Z p q : List Int) (j i : Nat) (hZ : ∀ x, Z.getD x 0 = 0) (hlen : i + j ≤ Z.length) : ∀ x, i + j ≤ x → (rowsTo Z p q j i).getD x 0 = 0 := by
  induction i with
  | zero => intro x _; exact hZ x
  | succ i ih =>
    intro x hx
    simp only [rowsTo]
    rw [subTo_get _ _ _ _ _ _ (by rw [rowsTo_len]; omega), if_neg (by omega)]
    exact ih (by omega) x (by omega)

theorem rowsTo_val (B : Int) (Z p q : List Int) (j i : Nat) (hZ : ∀ x, Z.getD x 0 = 0) (hlen : i + j ≤ Z.length + 1) (hl : ∀ k, k < i → k + j ≤ Z.length) (hi : i ≤ p.length) (hj : j ≤ q.length) : vb B (rowsTo Z p q j i) = vb B (p.take i) * vb B (q.take j) := by
  induction i with
  | zero => simp only [rowsTo]; rw [vb_zero _ _ hZ]; simp [vb]
  | succ i ih =>
    simp only [rowsTo]
    rw [subTo_val _ _ _ _ _ _ (by rw [rowsTo_len]; exact hl i (by omega)) hj, ih (by omega) (fun k hk => hl k (by omega)) (by omega), List.take_succ_eq_append_getElem (by omega), vb_snoc]
    have : p.getD i 0 = p[i] := by simp [List.getD, show i < p.length by omega]
    rw [this, List.length_take, Nat.min_eq_left (by omega), Int.add_mul, Int.neg_mul]
    have e : p[i] * (B ^ i * vb B (q.take j)) = B ^ i * p[i] * vb B (q.take j) := by
      rw [← Int.mul_assoc, Int.mul_comm p[i] (B ^ i)]
    omega

set_option maxHeartbeats 1000000 in
set_option maxRecDepth 100000 in
theorem times_any {n m k j : Nat} {p q : List Int} (w : World) (hP : Rep n k p) (hQ : Rep m j q) (hk : k ≤ 100) (hj : j ≤ 100) :
    Calls Tryd.prog 25 #[.agg (natC k p), .agg (natC j q)] w fun e w' => ∃ (i : Nat) (r : List Int), e = .returned (.agg (natC i r)) ∧ Rep (n * m) i r ∧ Below w.heap.size w w' := by
  have hz := zero_nat.1
  have hp := hP.len
  have hq := hQ.len
  have A := (((NatAt.new w k p).old (.cells (natC j q) 46)).old (.cells (natC 0 zP) 46)).old (.cells (natC 0 zP) 46)
  have B := ((NatAt.new (w.alloc (.cells (natC k p) 46)) j q).old (.cells (natC 0 zP) 46)).old (.cells (natC 0 zP) 46)
  have C := (NatAt.new ((w.alloc (.cells (natC k p) 46)).alloc (.cells (natC j q) 46)) 0 zP).old (.cells (natC 0 zP) 46)
  have D := NatAt.new (((w.alloc (.cells (natC k p) 46)).alloc (.cells (natC j q) 46)).alloc (.cells (natC 0 zP) 46)) 0 zP
  have hB : Below w.heap.size w ((((w.alloc (.cells (natC k p) 46)).alloc (.cells (natC j q) 46)).alloc (.cells (natC 0 zP) 46)).alloc (.cells (natC 0 zP) 46)) := ((((Below.refl _ _).alloc (Nat.le_refl _) _).alloc (by simp) _).alloc (by simp; omega) _).alloc (by simp; omega) _
  simp only [World.size_alloc] at B C D
  have a0 := A.c0
  have HP : Hid (Rep n k p) := hP
  have HQ : Hid (Rep m j q) := hQ
  have hbp : Hid (∀ x, 0 ≤ p.getD x 0 ∧ p.getD x 0 < 1000000) := fun x => ⟨hP.lo x, hP.hi x⟩
  have hbq : Hid (∀ x, 0 ≤ q.getD x 0 ∧ q.getD x 0 < 1000000) := fun x => ⟨hQ.lo x, hQ.hi x⟩
  clear hP hQ
  go_enter Tryd.func25, Tryd.ntmps25
  go_wp2
  go_loopg [10] k (fun g i wr => ∃ s : Nat, g = k - s ∧ s ≤ k ∧ i = .int .i64 (s : Int) ∧ NatAt wr w.heap.size k p ∧ NatAt wr (w.heap.size + 1) j q ∧ NatAt wr (w.heap.size + 1 + 1) 0 zP ∧ NatAt wr (w.heap.size + 1 + 1 + 1) 0 (rowsTo zP p q j s) ∧ Below w.heap.size w wr)
  case atStart => exact ⟨0, rfl, by omega, rfl, A, B, C, D, hB⟩
  case round =>
    obtain ⟨s, rfl, hs, rfl, hA, hQt, hC, hD, hW⟩ := hrel
    clear A B C D hB a0
    by_cases hsk : (s : Int) < (k : Int)
    · have b0 := hQt.c0
      have hrb : Hid (∀ x, 0 ≤ (rowsTo zP p q j s).getD x 0 ∧ (rowsTo zP p q j s).getD x 0 ≤ (s : Int) * (1000000 * 1000000)) := rowsTo_bd zP p q 1000000 j s (by omega) zP_get hbp.out hbq.out (by rw [zP_len]; omega)
      have hrl : (rowsTo zP p q j s).length = 204 := by rw [rowsTo_len]; exact zP_len
      go_wp2
      go_loopg [15] j (fun g i wq => ∃ t : Nat, g = j - t ∧ t ≤ j ∧ i = .int .i64 (t : Int) ∧ NatAt wq w.heap.size k p ∧ NatAt wq (w.heap.size + 1) j q ∧ NatAt wq (w.heap.size + 1 + 1) 0 zP ∧ NatAt wq (w.heap.size + 1 + 1 + 1) 0 (subTo (rowsTo zP p q j s) q (-(p.getD s 0)) s t) ∧ Below w.heap.size w wq)
      case atStart => exact ⟨0, rfl, by omega, rfl, hA, hQt, hC, hD, hW⟩
      case round =>
        obtain ⟨t, rfl, ht, rfl, hA2, hQ2, hC2, hD2, hW2⟩ := hrel
        clear hA hQt hC hD hW b0
        by_cases hlt : (t : Int) < (j : Int)
        · obtain ⟨u, hu⟩ : ∃ u, u = s + t := ⟨_, rfl⟩
          have a1 := hA2.cs s (by omega)
          have b1 := hQ2.cs t (by omega)
          have hll : (subTo (rowsTo zP p q j s) q (-(p.getD s 0)) s t).length = 204 := by rw [subTo_len]; exact hrl
          have d1 := hD2.cs u (by omega)
          have hfr := hD2.fr (1 + u)
          have h1 : (s : Int) < 204 := by omega
          have h2 : (t : Int) < 204 := by omega
          have h3 : (u : Int) < 204 := by omega
          have hwr : IntKind.i64.wrap ((s : Int) + (t : Int)) = (u : Int) := by rw [IntKind.wrap_i64]; omega
          obtain ⟨x, hx⟩ : ∃ x, x = p.getD s 0 := ⟨_, rfl⟩
          obtain ⟨y, hy⟩ : ∃ y, y = q.getD t 0 := ⟨_, rfl⟩
          obtain ⟨v, hv⟩ : ∃ v, v = (subTo (rowsTo zP p q j s) q (-(p.getD s 0)) s t).getD u 0 := ⟨_, rfl⟩
          obtain ⟨hx0, hx1⟩ : 0 ≤ x ∧ x < 1000000 := by rw [hx]; exact hbp.out s
          obtain ⟨hy0, hy1⟩ : 0 ≤ y ∧ y < 1000000 := by rw [hy]; exact hbq.out t
          obtain ⟨hv0, hv1⟩ : 0 ≤ v ∧ v ≤ 101000000000000 := by
            have := part_bd zP p q 1000000 j s t u (by omega) zP_get hbp.out hbq.out (by rw [zP_len]; omega) (by rw [zP_len]; omega) hrb.out
            rw [← hv] at this
            refine ⟨this.1, Int.le_trans this.2 ?_⟩
            have : ((s + 1 : Nat) : Int) ≤ 101 := by omega
            omega
          rw [← hx] at a1
          rw [← hy] at b1
          rw [← hv] at d1
          obtain ⟨z, hzz⟩ : ∃ z, x * y = z := ⟨_, rfl⟩
          obtain ⟨hz0, hz1⟩ : 0 ≤ z ∧ z ≤ 1000000 * 1000000 := by rw [← hzz]; exact mul_bd hx0 hx1 hy0 hy1
          have HX : Hid (x = p.getD s 0 ∧ y = q.getD t 0 ∧ v = (subTo (rowsTo zP p q j s) q (-(p.getD s 0)) s t).getD u 0 ∧ u = s + t) := ⟨hx, hy, hv, hu⟩
          have hwz : IntKind.i64.wrap z = z := by rw [IntKind.wrap_i64]; omega
          clear hx hy hv hrl hll hu
          go_wp2_with fail
          refine wp_region_still_tail 18 (by kernel_rfl) (by kernel_rfl) ?_
          simp only [List.take_succ_cons, List.take_zero, List.drop_succ_cons, List.drop_zero]
          repeat still_step
          refine wpStill_nil ?_
          go_wp2
          go_roundg (j - (t + 1))
          case measure => omega
          case rel =>
            obtain ⟨hx, hy, hv, hu⟩ := HX.out
            subst hu
            have hgr : ∀ V, wr.grownBy (wr.drew.setCell ⟨w.heap.size + 1 + 1 + 1, 1 + (s + t), none⟩ V) (some (w.heap.size + 1 + 1 + 1)) := fun V => grownBy_set (w := wr) (wr := wr.drew) ⟨rfl, rfl, rfl, Nat.le_refl _, fun _ _ _ => rfl⟩ _ _
            refine ⟨t + 1, rfl, by omega, by go_num, hA2.grown (hgr _) (by simp <;> omega), hQ2.grown (hgr _) (by simp <;> omega), hC2.grown (hgr _) (by simp), ?_, (hW2.drew).setCell (by simp <;> omega) _⟩
            have g1 : NatAt wr.drew (w.heap.size + 1 + 1 + 1) 0 (subTo (rowsTo zP p q j s) q (-(p.getD s 0)) s t) := hD2
            have g2 := g1.setS (s + t) (v + z)
            show NatAt _ _ _ ((subTo (rowsTo zP p q j s) q (-(p.getD s 0)) s t).set (s + t) ((subTo (rowsTo zP p q j s) q (-(p.getD s 0)) s t).getD (s + t) 0 - -(p.getD s 0) * q.getD t 0))
            rw [← hv, ← hx, ← hy, Int.neg_mul, hzz, Int.sub_neg]
            rw [← hx] at g2
            exact g2
        · have htj : t = j := by omega
          subst htj
          go_wp2
          go_roundg (k - (s + 1))
          case measure => omega
          case rel => exact ⟨s + 1, rfl, by omega, by go_num, hA2, hQ2, hC2, hD2, hW2⟩
    · have hsk' : s = k := by omega
      subst hsk'
      have a0 := hA.c0
      have b0 := hQt.c0
      have d0 := hD.c0
      have hfr := hD.fr 0
      have hbd : Hid (∀ i, -400000000000000 ≤ (rowsTo zP p q j s).getD i 0 ∧ (rowsTo zP p q j s).getD i 0 ≤ 400000000000000) := fun i => by
        have := rowsTo_bd zP p q 1000000 j s (by omega) zP_get hbp.out hbq.out (by rw [zP_len]; omega) i
        omega
      have hout : Hid (∀ i, s + j ≤ i → (rowsTo zP p q j s).getD i 0 = 0) := rowsTo_zero zP p q j s zP_get (by rw [zP_len]; omega)
      have hval : Hid (vb 1000000 (rowsTo zP p q j s) = ((n * m : Nat) : Int)) := by
        unfold Hid
        rw [rowsTo_val _ _ _ _ _ _ zP_get (by rw [zP_len]; omega) (fun k hk => by rw [zP_len]; omega) (by omega) (by omega), vb_take_out _ _ _ (by omega) HP.out.out, vb_take_out _ _ _ (by omega) HQ.out.out, HP.out.val, HQ.out.val]; simp
      have hl : (rowsTo zP p q j s).length = 204 := by rw [rowsTo_len]; exact zP_len
      have hWs := hW.size
      have hA' := hD.set0 ((s : Int) + (j : Int))
      have hg' := grownBy_set (r0 wr) (b := w.heap.size + 1 + 1 + 1) 0 (.int .i64 ((s : Int) + (j : Int)))
      have hQ' := hC.grown hg' (by simp)
      have hW' := hW.setCell (p := ⟨w.heap.size + 1 + 1 + 1, 0, none⟩) (by simp; omega) (.int .i64 ((s : Int) + (j : Int)))
      go_wp2_with fail
      refine (carry_any (w.heap.size + 1 + 1 + 1) (s + j) (rowsTo zP p q j s) _ hl (by omega) hA' hbd.out hout.out).mono ?_
      rintro e w2 ⟨ok, i, r, rfl, hr, hN2, hg2, hs2, hcase⟩
      have hR : Rep (n * m) i r := by
        rcases hcase with ⟨_, n', h1, h2⟩ | ⟨_, h1⟩
        · have : n' = n * m := by have := hval.out; omega
          rw [← this]; exact h2
        · have := hval.out; omega
      have hC2 := hQ'.grown hg2 (by simp)
      have hW2 : Below w.heap.size w w2 := hW'.grown hg2 (by have := hW'.size; omega) (by intro k hk; cases hk; omega)
      have HR : Hid (Rep (n * m) i r) := hR
      clear hA hQt hC hD hW hA' hg' hQ' hW' hg2 hs2 hcase hR a0 b0 d0 hfr
      go_wp2_with (first | (refine load_nat rfl _ rfl (w.heap.size + 1 + 1 + 1) rfl i r hN2 hr ?_) | (refine store_nat rfl _ _ rfl rfl (w.heap.size + 1 + 1) i r rfl rfl 0 zP hC2 zP_len hr ?_; intro w3 hN3 hg3 hs3))
      refine bodyPost_ret (v := .agg (natC i r)) (res_nat Tryd.results25 _ _ (w.heap.size + 1 + 1) _ _ rfl hN3 hr) rfl ⟨i, r, rfl, HR.out, ?_⟩
      exact hW2.grown hg3 (by have := hW2.size; omega) (by intro k hk; cases hk; omega)
end Go.Proofs.YtmfpnbmfcoahbaaDoor

/-
  What timesSmall of impl's nats answers.
-/
namespace Go.Proofs.YtmfpnbmfcoahbaaDoor
open Go.RowKit
set_option linter.unusedVariables false

theorem times_self (x b : Int) : x - -(b - 1) * x = x * b := by
  rw [Int.neg_mul, Int.sub_mul, Int.one_mul, Int.mul_comm b x]; omega

set_option maxHeartbeats 1000000 in
set_option maxRecDepth 100000 in
theorem timesSmall_any {n k : Nat} {p : List Int} (b a : Int) (w : World) (B' A' : Nat) (hP : Rep n k p) (hk : k ≤ 200) (hb : b = (B' : Int)) (ha : a = (A' : Int)) (hb0 : 0 < b) (hb1 : b ≤ 16) (ha0 : 0 ≤ a) (ha1 : a ≤ 16) :
    Calls Tryd.prog 84 #[.agg (natC k p), .int .i64 b, .int .i64 a] w fun e w' => ∃ (i : Nat) (r : List Int), e = .returned (.agg (natC i r)) ∧ Rep (B' * n + A') i r ∧ Below w.heap.size w w' := by
  have hz := zero_nat.1
  have hp := hP.len
  have A := (NatAt.new w k p).old (.cells (natC 0 zP) 46)
  have C := NatAt.new (w.alloc (.cells (natC k p) 46)) 0 zP
  have hB : Below w.heap.size w ((w.alloc (.cells (natC k p) 46)).alloc (.cells (natC 0 zP) 46)) := ((Below.refl _ _).alloc (Nat.le_refl _) _).alloc (by simp) _
  simp only [World.size_alloc] at C
  have a0 := A.c0
  have HP := hide hP
  have HBA := hide (And.intro hb ha)
  clear hP hb ha
  go_enter Tryd.func84, Tryd.ntmps84
  go_wp2
  go_loopg [10] k (fun g i wr => ∃ t : Nat, g = k - t ∧ t ≤ k ∧ i = .int .i64 (t : Int) ∧ NatAt wr w.heap.size k (subTo p p (-(b - 1)) 0 t) ∧ NatAt wr (w.heap.size + 1) 0 zP ∧ Below w.heap.size w wr)
  case atStart => exact ⟨0, rfl, by omega, rfl, A, C, hB⟩
  case round =>
    obtain ⟨t, rfl, ht, rfl, hA, hC, hW⟩ := hrel
    clear A C hB a0
    have hl : (subTo p p (-(b - 1)) 0 t).length = 204 := by rw [subTo_len]; exact hp
    by_cases hlt : (t : Int) < (k : Int)
    · have a1 := hA.cs t (by omega)
      have hfr := hA.fr (1 + t)
      have ht2 : (t : Int) < 204 := by omega
      obtain ⟨x, hx⟩ : ∃ x, x = (subTo p p (-(b - 1)) 0 t).getD t 0 := ⟨_, rfl⟩
      have hxp : x = p.getD t 0 := by rw [hx, subTo_get _ _ _ _ _ _ (by omega), if_neg (by omega)]
      obtain ⟨hx0, hx1⟩ : 0 ≤ x ∧ x < 1000000 := by rw [hxp]; exact ⟨HP.out.lo t, HP.out.hi t⟩
      rw [← hx] at a1
      have HX := hide (And.intro hx hxp)
      obtain ⟨z, hzz⟩ : ∃ z, x * b = z := ⟨_, rfl⟩
      have hz0 : 0 ≤ z := by rw [← hzz]; exact Int.mul_nonneg hx0 (by omega)
      have hz1 : z ≤ 16000000 := by
        rw [← hzz]
        have h1 : x * b ≤ 1000000 * b := Int.mul_le_mul_of_nonneg_right (by omega) (by omega)
        omega
      have hwz : IntKind.i64.wrap z = z := by rw [IntKind.wrap_i64]; omega
      clear hx hxp
      go_wp2
      go_roundg (k - (t + 1))
      case measure => omega
      case rel =>
        obtain ⟨hx, hxp⟩ := HX.out
        refine ⟨t + 1, rfl, by omega, by go_num, ?_, ?_, ?_⟩
        · show NatAt _ _ _ ((subTo p p (-(b - 1)) 0 t).set (0 + t) ((subTo p p (-(b - 1)) 0 t).getD (0 + t) 0 - -(b - 1) * p.getD t 0))
          rw [Nat.zero_add, ← hx, ← hxp, times_self, hzz]
          exact hA.setS t z
        · exact hC.grown (grownBy_set (r0 wr) _ _) (by simp)
        · exact hW.setCell (by simp) _
    · have htk : t = k := by omega
      subst htk
      have a0 := hA.c0
      have hfr := hA.fr 0
      have hfr1 := hA.fr 1
      have a1 : wr.cell? ⟨w.heap.size, 1, none⟩ = some (.int .i64 ((subTo p p (-(b - 1)) 0 t).getD 0 0)) := hA.cs 0 (by omega)
      have hget : Hid (∀ i, (subTo p p (-(b - 1)) 0 t).getD i 0 = p.getD i 0 * b) := fun i => by
        rw [subTo_get _ _ _ _ _ _ (by omega)]
        split
        · rw [Nat.sub_zero, times_self]
        · rename_i h
          rw [HP.out.out i (by omega)]; simp
      have hgb : Hid (∀ i, 0 ≤ p.getD i 0 * b ∧ p.getD i 0 * b ≤ 16000000) := fun i => by
        have h0 := HP.out.lo i; have h1 := HP.out.hi i
        have h2 : p.getD i 0 * b ≤ 1000000 * b := Int.mul_le_mul_of_nonneg_right (by omega) (by omega)
        exact ⟨Int.mul_nonneg h0 (by omega), by omega⟩
      obtain ⟨x, hx⟩ : ∃ x, x = (subTo p p (-(b - 1)) 0 t).getD 0 0 := ⟨_, rfl⟩
      rw [← hx] at a1
      obtain ⟨hx0, hx1⟩ : 0 ≤ x ∧ x ≤ 16000000 := by rw [hx, hget.out 0]; exact hgb.out 0
      have hA1 := hA.setS 0 (x + a)
      have a0' : (wr.setCell ⟨w.heap.size, 1, none⟩ (.int .i64 (x + a))).cell? ⟨w.heap.size, 0, none⟩ = some (.int .i64 (t : Int)) := hA1.c0
      have hfr' : (wr.setCell ⟨w.heap.size, 1, none⟩ (.int .i64 (x + a))).frozen? ⟨w.heap.size, 0, none⟩ = false := hA1.fr 0
      have hq : Hid (∀ i, ((subTo p p (-(b - 1)) 0 t).set 0 (x + a)).getD i 0 = if i = 0 then x + a else p.getD i 0 * b) := fun i => by
        rw [getD_set _ _ _ _ (by omega), hget.out i]
      have hval : Hid (vb 1000000 ((subTo p p (-(b - 1)) 0 t).set 0 (x + a)) = ((B' * n + A' : Nat) : Int)) := by
        unfold Hid
        rw [vb_set _ _ _ _ (by omega), ← hx, subTo_val _ _ _ _ _ _ (by omega) (by omega), vb_take_out _ _ _ (by omega) HP.out.out, HP.out.val]
        have e1 := HBA.out.1
        have e2 := HBA.out.2
        have e3 : (n : Int) - -(b - 1) * (1000000 ^ 0 * (n : Int)) = (n : Int) * b := by rw [Int.pow_zero, Int.one_mul]; exact times_self _ _
        rw [e3, e1, e2, Int.pow_zero, Int.one_mul]
        have : ((B' * n + A' : Nat) : Int) = (n : Int) * (B' : Int) + (A' : Int) := by rw [Int.natCast_add, Int.natCast_mul, Int.mul_comm]
        omega
      have hWs := hW.size
      have hbd : Hid (∀ i, -400000000000000 ≤ ((subTo p p (-(b - 1)) 0 t).set 0 (x + a)).getD i 0 ∧ ((subTo p p (-(b - 1)) 0 t).set 0 (x + a)).getD i 0 ≤ 400000000000000) := fun i => by
        rw [hq.out i]; have := hgb.out i; split <;> omega
      have hlen : ((subTo p p (-(b - 1)) 0 t).set 0 (x + a)).length = 204 := by rw [List.length_set]; exact hl
      have HX := hide hx
      clear hx
      by_cases ht1 : 1 ≤ (t : Int)
      · go_wp2_with fail
        have hA2 := hA1.set0 (t : Int)
        have hgr := grownBy_set (grownBy_set (r0 wr) (b := w.heap.size) 1 (.int .i64 (x + a))) 0 (.int .i64 (t : Int))
        have hC2 := hC.grown hgr (by simp)
        have hW2 : Below w.heap.size w ((wr.setCell ⟨w.heap.size, 1, none⟩ (.int .i64 (x + a))).setCell ⟨w.heap.size, 0, none⟩ (.int .i64 (t : Int))) := (hW.setCell (by simp) _).setCell (by simp) _
        have hs2 := hW2.size
        refine (carry_any w.heap.size t ((subTo p p (-(b - 1)) 0 t).set 0 (x + a)) _ hlen (by omega) hA2 hbd.out (fun i hi => by
          rw [hq.out i, if_neg (by omega), HP.out.out i (by omega)]; simp)).mono ?_
        rintro e w3 ⟨ok, i, r, rfl, hr, hN3, hg3, hs3, hcase⟩
        have hR : Rep (B' * n + A') i r := by
          rcases hcase with ⟨_, n', h1, h2⟩ | ⟨_, h1⟩
          · have : n' = B' * n + A' := by have := hval.out; omega
            rw [← this]; exact h2
          · have := hval.out; omega
        have hC3 := hC2.grown hg3 (by simp)
        have hW3 : Below w.heap.size w w3 := hW2.grown hg3 (by omega) (by intro k hk; cases hk; omega)
        have HR := hide hR
        clear hA hC hW hA1 a0 hfr hfr1 a1 a0' hfr' hA2 hgr hC2 hW2 hg3 hs3 hcase hR
        go_wp2_with (first | (refine load_nat rfl _ rfl w.heap.size rfl i r hN3 hr ?_) | (refine store_nat rfl _ _ rfl rfl (w.heap.size + 1) i r rfl rfl 0 zP hC3 zP_len hr ?_; intro w4 hN4 hg4 hs4))
        refine bodyPost_ret (v := .agg (natC i r)) (res_nat Tryd.results84 _ _ (w.heap.size + 1) _ _ rfl hN4 hr) rfl ⟨i, r, rfl, HR.out, ?_⟩
        exact hW3.grown hg4 (by have := hW3.size; omega) (by intro k hk; cases hk; omega)
      · go_wp2_with fail
        have hA2 := hA1.set0 1
        have hgr := grownBy_set (grownBy_set (r0 wr) (b := w.heap.size) 1 (.int .i64 (x + a))) 0 (.int .i64 1)
        have hC2 := hC.grown hgr (by simp)
        have hW2 : Below w.heap.size w ((wr.setCell ⟨w.heap.size, 1, none⟩ (.int .i64 (x + a))).setCell ⟨w.heap.size, 0, none⟩ (.int .i64 1)) := (hW.setCell (by simp) _).setCell (by simp) _
        have hs2 := hW2.size
        refine (carry_any w.heap.size 1 ((subTo p p (-(b - 1)) 0 t).set 0 (x + a)) _ hlen (by omega) hA2 hbd.out (fun i hi => by
          rw [hq.out i, if_neg (by omega), HP.out.out i (by omega)]; simp)).mono ?_
        rintro e w3 ⟨ok, i, r, rfl, hr, hN3, hg3, hs3, hcase⟩
        have hR : Rep (B' * n + A') i r := by
          rcases hcase with ⟨_, n', h1, h2⟩ | ⟨_, h1⟩
          · have : n' = B' * n + A' := by have := hval.out; omega
            rw [← this]; exact h2
          · have := hval.out; omega
        have hC3 := hC2.grown hg3 (by simp)
        have hW3 : Below w.heap.size w w3 := hW2.grown hg3 (by omega) (by intro k hk; cases hk; omega)
        have HR := hide hR
        clear hA hC hW hA1 a0 hfr hfr1 a1 a0' hfr' hA2 hgr hC2 hW2 hg3 hs3 hcase hR
        go_wp2_with (first | (refine load_nat rfl _ rfl w.heap.size rfl i r hN3 hr ?_) | (refine store_nat rfl _ _ rfl rfl (w.heap.size + 1) i r rfl rfl 0 zP hC3 zP_len hr ?_; intro w4 hN4 hg4 hs4))
        refine bodyPost_ret (v := .agg (natC i r)) (res_nat Tryd.results84 _ _ (w.heap.size + 1) _ _ rfl hN4 hr) rfl ⟨i, r, rfl, HR.out, ?_⟩
        exact hW3.grown hg4 (by have := hW3.size; omega) (by intro k hk; cases hk; omega)
end Go.Proofs.YtmfpnbmfcoahbaaDoor

/-
  What readDigits of impl answers.
-/
namespace Go.Proofs.YtmfpnbmfcoahbaaDoor
open Go.RowKit
set_option linter.unusedVariables false

/-- At most 1200 digits just where there are at most 200 parts. -/
theorem Rep.fits2 {n k : Nat} {p : List Int} (h : Rep n k p) : k ≤ 200 ↔ n < 10 ^ 1200 := by
  have e : ((10 ^ 1200 : Nat) : Int) = 1000000 ^ 200 := by decide +kernel
  constructor
  · intro hk
    have h1 := h.lt
    have : (1000000 : Int) ^ k ≤ 1000000 ^ 200 := ipow_le hk
    omega
  · intro hn
    by_cases hk : k ≤ 200
    · exact hk
    · have h2 := h.ge (by omega)
      have : (1000000 : Int) ^ 200 ≤ 1000000 ^ (k - 1) := ipow_le (by omega)
      omega

/-- Are these 1..2000 digits of the radix, which tell a number of at most 1200 digits? -/
def rdOk (b : Nat) (s : ByteArray) : Bool := (decide (1 ≤ s.size) && decide (s.size ≤ 2000)) && (rdigs b s.data.toList && decide (rval b s.data.toList < 10 ^ 1200))

theorem rd_bad {b : Nat} {s : ByteArray} (i : Nat) (h : i < s.size) (hb : ¬ dg s[i] < b) : rdOk b s = false := by
  have : rdigs b s.data.toList = false := by
    unfold rdigs
    rw [List.all_eq_false]
    exact ⟨s.data.toList[i]'(by simpa using h), List.getElem_mem _, fun h => hb (of_decide_eq_true h)⟩
  unfold rdOk; rw [this, Bool.false_and, Bool.and_false]

theorem rd_long {b : Nat} {s : ByteArray} (i : Nat) (hb : 1 ≤ b) (hv : ¬ rval b (s.data.toList.take i) < 10 ^ 1200) : rdOk b s = false := by
  have h1 := rval_mono b hb (s.data.toList.take i) (s.data.toList.drop i)
  rw [List.take_append_drop] at h1
  have h2 : ¬ rval b s.data.toList < 10 ^ 1200 := fun h => hv (Nat.lt_of_le_of_lt h1 h)
  unfold rdOk; rw [decide_eq_false h2, Bool.and_false, Bool.and_false]

theorem rd_take (b : Nat) (s : ByteArray) (i : Nat) (h : i < s.size) : rval b (s.data.toList.take (i + 1)) = b * rval b (s.data.toList.take i) + dg s[i] := by
  rw [take_snoc s i h, rval_snoc]

theorem zero_rep : Rep 0 0 zP :=
  ⟨zP_len, by omega, fun i => by rw [zP_get]; omega, fun i => by rw [zP_get]; omega, fun i _ => zP_get i, fun h => absurd h (by omega), by rw [vb_zero _ _ zP_get]; rfl⟩

end Go.Proofs.YtmfpnbmfcoahbaaDoor
