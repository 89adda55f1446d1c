/-
  The texts Lehmer, Combined, Radix, Compare, one behind the other.
-/
import Derived.Test.YtmfpnbmfcoahbaaGreatDoorPkRead
import Derived.Deep.QuietTactic
import Derived.BigQuiet
import Derived.Test.YtmfpnbmfcoahbaaGreatDoorPkGood

/-
  What lead, gcdOf, sureSteps of impl answer.
-/
namespace Go.Proofs.YtmfpnbmfcoahbaaGreatDoor
open Go.RowKit
set_option linter.unusedVariables false

set_option maxHeartbeats 1000000 in
set_option maxRecDepth 100000 in
theorem lead_any {n k : Nat} {p : List Int} (T U : Nat) (w : World) (hP : Rep n k p) (hU : U = T + 3) (hT : U ≤ 204) :
    Calls Tryz.prog 38 #[.agg (natC k p), .int .i64 (U : Int)] w fun e w' =>
      e = .returned (.int .i64 ((p.getD (T + 2) 0 * 1000000 + p.getD (T + 1) 0) * 1000000 + p.getD T 0)) ∧ Below w.heap.size w w' := by
  have hp := hP.len
  have A := NatAt.new w k p
  have hB : Below w.heap.size w (w.alloc (.cells (natC k p) 32)) := (Below.refl _ _).alloc (Nat.le_refl _) _
  obtain ⟨T2, hT2⟩ : ∃ x, x = T + 2 := ⟨_, rfl⟩
  obtain ⟨T1, hT1⟩ : ∃ x, x = T + 1 := ⟨_, rfl⟩
  rw [← hT1, ← hT2]
  have a0 := A.cs T (by omega)
  have a1 := A.cs T1 (by omega)
  have a2 := A.cs T2 (by omega)
  obtain ⟨x0, hx0⟩ : ∃ x, x = p.getD T 0 := ⟨_, rfl⟩
  obtain ⟨x1, hx1⟩ : ∃ x, x = p.getD T1 0 := ⟨_, rfl⟩
  obtain ⟨x2, hx2⟩ : ∃ x, x = p.getD T2 0 := ⟨_, rfl⟩
  have g0 : 0 ≤ x0 ∧ x0 < 1000000 := by rw [hx0]; exact ⟨hP.lo _, hP.hi _⟩
  have g1 : 0 ≤ x1 ∧ x1 < 1000000 := by rw [hx1]; exact ⟨hP.lo _, hP.hi _⟩
  have g2 : 0 ≤ x2 ∧ x2 < 1000000 := by rw [hx2]; exact ⟨hP.lo _, hP.hi _⟩
  rw [← hx0] at a0
  rw [← hx1] at a1
  rw [← hx2] at a2
  rw [← hx0, ← hx1, ← hx2]
  obtain ⟨g00, g01⟩ := g0
  obtain ⟨g10, g11⟩ := g1
  obtain ⟨g20, g21⟩ := g2
  have hw1 : IntKind.i64.wrap ((U : Int) - 1) = (T2 : Int) := by rw [IntKind.wrap_i64]; omega
  have hw2 : IntKind.i64.wrap ((U : Int) - 2) = (T1 : Int) := by rw [IntKind.wrap_i64]; omega
  have hw3 : IntKind.i64.wrap ((U : Int) - 3) = (T : Int) := by rw [IntKind.wrap_i64]; omega
  have k0 : (T : Int) < 204 := by omega
  have k1 : (T1 : Int) < 204 := by omega
  have k2 : (T2 : Int) < 204 := by omega
  have hF : IntKind.i64.wrap (IntKind.i64.wrap (IntKind.i64.wrap (IntKind.i64.wrap (x2 * 1000000) + x1) * 1000000) + x0) = (x2 * 1000000 + x1) * 1000000 + x0 := by
    simp only [IntKind.wrap_i64]; omega
  have HF := hide hF
  clear hx0 hx1 hx2 hP A hT hU hT1 hT2 hp hF
  go_enter Tryz.func38, Tryz.ntmps38
  go_wp2_with fail
  generalize hWW : w.alloc (.cells (natC k p) 32) = W at a0 a1 a2 hB ⊢
  clear hWW
  refine wp_region_still_tail 19 (by kernel_rfl) (by kernel_rfl) ?_
  simp only [List.take_succ_cons, List.take_zero, List.drop_succ_cons, List.drop_zero]
  repeat (first | still_step | simp only [hw1, hw2, hw3])
  refine wpStill_nil ?_
  go_wp2_with fail
  go_ret
  exact ⟨by rw [HF.out]; rfl, hB.drew⟩

set_option maxHeartbeats 1000000 in
set_option maxRecDepth 100000 in
theorem gcdOf_any (x y : Int) (w : World) (hx0 : 0 ≤ x) (hx1 : x < 1000000000000000000) (hy0 : 0 ≤ y) (hy1 : y < 1000000000000000000) :
    Calls Tryz.prog 40 #[.int .i64 x, .int .i64 y] w fun e w' => e = .returned (.int .i64 ((Int.gcd x y : Nat) : Int)) ∧ Below w.heap.size w w' := by
  go_enter Tryz.func40, Tryz.ntmps40
  go_wp2
  go_loopg [0, 1] y.toNat (fun g v0 v1 wr => ∃ a b : Int, g = b.toNat ∧ v0 = .int .i64 a ∧ v1 = .int .i64 b ∧ 0 ≤ a ∧ a < 1000000000000000000 ∧ 0 ≤ b ∧ b < 1000000000000000000 ∧ Hid (Int.gcd a b = Int.gcd x y) ∧ Below w.heap.size w wr)
  case atStart => exact ⟨x, y, rfl, rfl, rfl, hx0, hx1, hy0, hy1, rfl, Below.refl _ _⟩
  case round =>
    obtain ⟨a, b, rfl, rfl, rfl, ha0, ha1, hb0, hb1, HG, hW⟩ := hrel
    by_cases h0 : 0 < b
    · have hne : ¬ b = 0 := by omega
      have hr0 : 0 ≤ a % b := Int.emod_nonneg _ hne
      have hr1 : a % b < b := Int.emod_lt_of_pos _ h0
      have HG' : Hid (Int.gcd b (a % b) = Int.gcd x y) := by
        unfold Hid
        have e : a % b = a + (-(a / b)) * b := by
          have := Int.mul_ediv_add_emod a b
          grind
        rw [← HG.out, Int.gcd_comm b (a % b), e]
        exact Int.gcd_add_mul_right_left ..
      go_wp2
      go_quiet (fail)
      go_wp2
      go_roundg (a % b).toNat
      case measure => omega
      case rel => exact ⟨b, a % b, rfl, rfl, rfl, hb0, hb1, hr0, by omega, HG', (⟨hW.os, hW.tape, hW.output, hW.size, hW.block⟩ : Below w.heap.size w (wr.drewN nq))⟩
    · have hb : b = 0 := by omega
      subst hb
      have hE : Hid (a = ((Int.gcd x y : Nat) : Int)) := by
        unfold Hid
        rw [← HG.out, Int.gcd_zero_right]
        omega
      go_wp2
      go_ret
      exact ⟨by rw [← hE.out]; rfl, hW⟩

/-- A mix in memory. -/
def mixC (n1 b1 n2 b2 : Int) : Array Value := #[.int .i64 n1, .int .i64 b1, .int .i64 n2, .int .i64 b2]
def MixAt (w : World) (b : Nat) (n1 b1 n2 b2 : Int) : Prop := w.heap[b]? = some (.cells (mixC n1 b1 n2 b2) 73 (0, 0))
theorem zero_mix : (∀ w, (zeroValue 73).run Tryz.prog w = .ok (.agg (mixC 0 0 0 0)) w) ∧ (Tryz.prog.info? 73).map (·.size) = some 4 := zero_of_info (by kernel_rfl)
theorem MixAt.c0 {w : World} {b : Nat} {n1 b1 n2 b2 : Int} (h : MixAt w b n1 b1 n2 b2) : w.cell? ⟨b, 0, none⟩ = some (.int .i64 n1) := by rw [cell_of_row w b _ _ _ _ h]; rfl
theorem MixAt.c1 {w : World} {b : Nat} {n1 b1 n2 b2 : Int} (h : MixAt w b n1 b1 n2 b2) : w.cell? ⟨b, 1, none⟩ = some (.int .i64 b1) := by rw [cell_of_row w b _ _ _ _ h]; rfl
theorem MixAt.c2 {w : World} {b : Nat} {n1 b1 n2 b2 : Int} (h : MixAt w b n1 b1 n2 b2) : w.cell? ⟨b, 2, none⟩ = some (.int .i64 n2) := by rw [cell_of_row w b _ _ _ _ h]; rfl
theorem MixAt.c3 {w : World} {b : Nat} {n1 b1 n2 b2 : Int} (h : MixAt w b n1 b1 n2 b2) : w.cell? ⟨b, 3, none⟩ = some (.int .i64 b2) := by rw [cell_of_row w b _ _ _ _ h]; rfl

theorem mix_info (n1 b1 n2 b2 : Int) : (Tryz.prog.info? 73).map (·.size) = some (mixC n1 b1 n2 b2).size := zero_mix.2
theorem mixC_one (n1 b1 n2 b2 : Int) : (mixC n1 b1 n2 b2).all (·.oneCell') = true := by
  rw [Array.all_eq_true_iff_forall_mem]
  intro v hv
  simp [mixC] at hv
  rcases hv with rfl | rfl | rfl | rfl <;> rfl
theorem MixAt.new (w : World) (n1 b1 n2 b2 : Int) : MixAt (w.alloc (.cells (mixC n1 b1 n2 b2) 73)) w.heap.size n1 b1 n2 b2 := heap_alloc_new _ _
theorem MixAt.lt {w : World} {b : Nat} {n1 b1 n2 b2 : Int} (h : MixAt w b n1 b1 n2 b2) : b < w.heap.size := block_lt_of_cell (a := ⟨b, 0, none⟩) h.c0
theorem MixAt.old {w : World} {b : Nat} {n1 b1 n2 b2 : Int} (h : MixAt w b n1 b1 n2 b2) (o : Obj) : MixAt (w.alloc o) b n1 b1 n2 b2 := by
  unfold MixAt; rw [Below.heap_alloc _ _ _ h.lt]; exact h
theorem MixAt.grown {w w' : World} {b : Nat} {n1 b1 n2 b2 : Int} {r : Option Nat} (h : MixAt w b n1 b1 n2 b2) (hg : w.grownBy w' r) (hr : some b ≠ r) : MixAt w' b n1 b1 n2 b2 := by
  unfold MixAt; rw [hg.block b h.lt hr]; exact h
theorem MixAt.below {w w' : World} {b B : Nat} {n1 b1 n2 b2 : Int} (h : MixAt w b n1 b1 n2 b2) (hg : Below B w w') (hr : b < B) : MixAt w' b n1 b1 n2 b2 := by
  unfold MixAt; rw [hg.block b hr]; exact h
theorem load_mix {ops : Array Oper} {rest : List Oper} {o : Oper} {a : Act} {w : World} {Q : Exit → Act → World → Prop} (hgd : o.guard = none) (x : Operand) (ho : o.op = .load 73 x)
    (b : Nat) (hx : a.eval x = .pointer (some ⟨b, 0, none⟩)) (n1 b1 n2 b2 : Int) (hN : MixAt w b n1 b1 n2 b2)
    (h : wpList Tryz.prog ops Q rest (a.put o.dst (.agg (mixC n1 b1 n2 b2))) w) : wpList Tryz.prog ops Q (o :: rest) a w :=
  wpList_load_row hgd 73 x ho b hx 73 (mixC n1 b1 n2 b2) (0, 0) _ hN Tryz.underlying73 rfl (mix_info n1 b1 n2 b2) h
theorem store_mix {ops : Array Oper} {rest : List Oper} {o : Oper} {a : Act} {w : World} {Q : Exit → Act → World → Prop} (hgd : o.guard = none) (x y : Operand) (ho : o.op = .store 73 x y) (hd : o.dst = none)
    (b : Nat) (n1 b1 n2 b2 : Int) (hx : a.eval x = .pointer (some ⟨b, 0, none⟩)) (hy : a.eval y = .agg (mixC n1 b1 n2 b2)) (m1 c1 m2 c2 : Int) (hN : MixAt w b m1 c1 m2 c2)
    (h : ∀ w', MixAt w' b n1 b1 n2 b2 → w.grownBy w' (some b) → w'.heap.size = w.heap.size → wpList Tryz.prog ops Q rest a w') : wpList Tryz.prog ops Q (o :: rest) a w := by
  refine wpList_store_row hgd 73 x y ho b (mixC n1 b1 n2 b2) hx hy 73 (mixC m1 c1 m2 c2) hN (mix_info n1 b1 n2 b2) rfl (mixC_one _ _ _ _) ?_
  rw [hd]
  refine h _ (setRow_heap w b _ _ _ _ hN) ⟨rfl, rfl, rfl, by simp, fun k _ hne => ?_⟩ (by simp)
  exact setRow_other w b k _ (by intro e; exact hne (by rw [e]))

theorem res_mix {fn : Func} {x : Tmp} (h : fn.results = #[.cell x 73]) (tmps : Array Value) (w : World) (b : Nat) (n1 b1 n2 b2 : Int)
    (hp : tmps.getD x undef = .pointer (some ⟨b, 0, none⟩)) (hN : MixAt w b n1 b1 n2 b2) : (results fn tmps).run Tryz.prog w = .ok (.agg (mixC n1 b1 n2 b2)) w :=
  results_cell_row h tmps w b 73 (mixC n1 b1 n2 b2) (0, 0) _ hp hN Tryz.underlying73 rfl (mix_info n1 b1 n2 b2)

set_option maxHeartbeats 1000000 in
set_option maxRecDepth 100000 in
theorem sureSteps_any (X Y S N' B' : Int) (w : World) (hX0 : 0 ≤ X) (hX1 : X < 1000000000000000000) (hY0 : 0 ≤ Y) (hY1 : Y < 1000000000000000000) (hN : 0 ≤ N') (hN1 : N' < S) (hB : 0 ≤ B') (hB1 : B' < S) :
    Calls Tryz.prog 41 #[.int .i64 X, .int .i64 Y] w fun e w' => ∃ x y n1 b1 n2 b2 : Int, e = .returned (.agg (mixC n1 b1 n2 b2)) ∧ Mix X Y (X * S + N') (Y * S + B') x y n1 b1 n2 b2 ∧ Below w.heap.size w w' := by
  have hz := zero_mix.1
  have A := (MixAt.new w 0 0 0 0).old (.cells (mixC 0 0 0 0) 73)
  have B := MixAt.new (w.alloc (.cells (mixC 0 0 0 0) 73)) 0 0 0 0
  have hBl : Below w.heap.size w ((w.alloc (.cells (mixC 0 0 0 0) 73)).alloc (.cells (mixC 0 0 0 0) 73)) := ((Below.refl _ _).alloc (Nat.le_refl _) _).alloc (by simp) _
  simp only [World.size_alloc] at B
  have HS : Hid (0 ≤ N' ∧ N' < S ∧ 0 ≤ B' ∧ B' < S) := ⟨hN, hN1, hB, hB1⟩
  clear hN hN1 hB hB1
  go_enter Tryz.func41, Tryz.ntmps41
  go_wp2_with (refine store_mix rfl _ _ rfl rfl (w.heap.size + 1) 1 0 0 1 rfl rfl 0 0 0 0 B ?_; intro w1 hM1 hg1 hs1)
  have A1 := A.grown hg1 (by simp)
  have hW1 : Below w.heap.size w w1 := hBl.grown hg1 (by simp; omega) (by intro k hk; cases hk; omega)
  clear A B hBl hg1 hs1
  go_loopg [0, 1] Y.toNat (fun g v0 v1 wr => ∃ x y n1 b1 n2 b2 : Int, g = y.toNat ∧ v0 = .int .i64 x ∧ v1 = .int .i64 y ∧ Hid (Mix X Y (X * S + N') (Y * S + B') x y n1 b1 n2 b2) ∧ MixAt wr (w.heap.size + 1) n1 b1 n2 b2 ∧ MixAt wr w.heap.size 0 0 0 0 ∧ Below w.heap.size w wr)
  case atStart => exact ⟨X, Y, 1, 0, 0, 1, rfl, rfl, rfl, Mix.start X Y _ _ hX0 hY0 hX1 hY1, hM1, A1, hW1⟩
  case round =>
    obtain ⟨x, y, n1, b1, n2, b2, rfl, rfl, rfl, HM, hM, hA, hW⟩ := hrel
    clear hM1 A1 hW1
    have c0 := hM.c0
    have c1 := hM.c1
    have c2 := hM.c2
    have c3 := hM.c3
    have x0 := HM.out.x0
    have y0 := HM.out.y0
    have x1 := HM.out.xy.1
    have y1 := HM.out.xy.2
    obtain ⟨⟨l1, u1⟩, ⟨l2, u2⟩, ⟨l3, u3⟩, ⟨l4, u4⟩⟩ := HM.out.bd
    have a1 := HM.out.a1
    have a2 := HM.out.a2
    have p1 := HM.out.c1
    have p2 := HM.out.c2
    by_cases d1 : y + n2 = 0
    · go_wp2_with (first | (refine load_mix rfl _ rfl (w.heap.size + 1) rfl n1 b1 n2 b2 hM ?_) | (refine store_mix rfl _ _ rfl rfl w.heap.size n1 b1 n2 b2 rfl rfl 0 0 0 0 hA ?_; intro w2 hM2 hg2 hs2))
      refine bodyPost_ret (v := .agg (mixC n1 b1 n2 b2)) (res_mix Tryz.results41 _ _ w.heap.size n1 b1 n2 b2 rfl hM2) rfl ⟨x, y, n1, b1, n2, b2, rfl, HM.out, hW.grown hg2 (by have := hW.size; omega) (by intro k hk; cases hk; omega)⟩
    · by_cases d2 : y + b2 = 0
      · go_wp2_with (first | (refine load_mix rfl _ rfl (w.heap.size + 1) rfl n1 b1 n2 b2 hM ?_) | (refine store_mix rfl _ _ rfl rfl w.heap.size n1 b1 n2 b2 rfl rfl 0 0 0 0 hA ?_; intro w2 hM2 hg2 hs2))
        refine bodyPost_ret (v := .agg (mixC n1 b1 n2 b2)) (res_mix Tryz.results41 _ _ w.heap.size n1 b1 n2 b2 rfl hM2) rfl ⟨x, y, n1, b1, n2, b2, rfl, HM.out, hW.grown hg2 (by have := hW.size; omega) (by intro k hk; cases hk; omega)⟩
      · have e1 : (y + n2 != 0) = true := by simp [d1]
        have e2 : (y + b2 != 0) = true := by simp [d2]
        obtain ⟨q, hq⟩ : ∃ q, (x + n1) / (y + n2) = q := ⟨_, rfl⟩
        by_cases d3 : (x + b1) / (y + b2) = q
        · obtain ⟨HM', q0, z0, s0, _, zy⟩ := Mix.step HM.out hX1 hY1 HS.out.1 HS.out.2.1 HS.out.2.2.1 HS.out.2.2.2 d1 d2 hq d3
          obtain ⟨_, _, ⟨l5, u5⟩, ⟨l6, u6⟩⟩ := HM'.bd
          have HM2 := hide HM'
          clear HM'
          have e3 : (q != q) = false := by simp
          go_wp2_with (refine store_mix rfl _ _ rfl rfl (w.heap.size + 1) n2 b2 (n1 - q * n2) (b1 - q * b2) rfl rfl n1 b1 n2 b2 hM ?_; intro w2 hM2 hg2 hs2)
          go_roundg (x - q * y).toNat
          case measure => omega
          case rel => exact ⟨y, x - q * y, n2, b2, n1 - q * n2, b1 - q * b2, rfl, rfl, rfl, HM2, hM2, hA.grown hg2 (by simp), hW.grown hg2 (by have := hW.size; omega) (by intro k hk; cases hk; omega)⟩
        · have e3 : (q != (x + b1) / (y + b2)) = true := by simp; exact fun h => d3 h.symm
          go_wp2_with (first | (refine load_mix rfl _ rfl (w.heap.size + 1) rfl n1 b1 n2 b2 hM ?_) | (refine store_mix rfl _ _ rfl rfl w.heap.size n1 b1 n2 b2 rfl rfl 0 0 0 0 hA ?_; intro w2 hM2 hg2 hs2))
          refine bodyPost_ret (v := .agg (mixC n1 b1 n2 b2)) (res_mix Tryz.results41 _ _ w.heap.size n1 b1 n2 b2 rfl hM2) rfl ⟨x, y, n1, b1, n2, b2, rfl, HM.out, hW.grown hg2 (by have := hW.size; omega) (by intro k hk; cases hk; omega)⟩
end Go.Proofs.YtmfpnbmfcoahbaaGreatDoor

/-
  What combined of impl's nats answers.
-/
namespace Go.Proofs.YtmfpnbmfcoahbaaGreatDoor
open Go.RowKit
set_option linter.unusedVariables false

set_option maxHeartbeats 2000000 in
set_option maxRecDepth 100000 in
theorem combined_any {n m k j : Nat} {p q : List Int} (x y : Int) (w : World) (v : Nat) (hP : Rep n k p) (hQ : Rep m j q) (hk : k ≤ 202) (hj : j ≤ 202) (hx : -1000000000 ≤ x ∧ x ≤ 1000000000) (hy : -1000000000 ≤ y ∧ y ≤ 1000000000) (hv : x * (n : Int) + y * (m : Int) = (v : Int)) :
    Calls Tryz.prog 42 #[.agg (natC k p), .int .i64 x, .agg (natC j q), .int .i64 y] w fun e w' => ∃ (i : Nat) (r : List Int), e = .returned (.agg (natC i r)) ∧ Rep v i r ∧ Below w.heap.size w w' := by
  have hz := zero_nat.1
  have hp := hP.len
  have hq := hQ.len
  have HP : Hid (Rep n k p) := hP
  have HQ : Hid (Rep m j q) := hQ
  have HV := hide hv
  have HX := hide hx
  have HY := hide hy
  clear hP hQ hv hx hy
  rcases Int.lt_or_le (k : Int) (j : Int) with hkj | hkj
  · have hset : (natC k p).setIfInBounds 0 (.int .i64 (j : Int)) = natC (j : Int) p := natC_set0 _ _ _
    have A := ((NatAt.new w (j : Int) p).old (.cells (natC j q) 32)).old (.cells (natC 0 zP) 32)
    have B := (NatAt.new (w.alloc (.cells (natC (j : Int) p) 32)) j q).old (.cells (natC 0 zP) 32)
    have C := NatAt.new ((w.alloc (.cells (natC (j : Int) p) 32)).alloc (.cells (natC j q) 32)) 0 zP
    have hB : Below w.heap.size w (((w.alloc (.cells (natC (j : Int) p) 32)).alloc (.cells (natC j q) 32)).alloc (.cells (natC 0 zP) 32)) := (((Below.refl _ _).alloc (Nat.le_refl _) _).alloc (by simp) _).alloc (by simp; omega) _
    simp only [World.size_alloc] at B C
    have HSET := hide hset
    have a0 := A.c0
    rw [← hset] at a0
    clear hset
    have ak := (((NatAt.new w k p).old (.cells (natC j q) 32)).old (.cells (natC 0 zP) 32)).c0
    have af := (((NatAt.new w k p).old (.cells (natC j q) 32)).old (.cells (natC 0 zP) 32)).fr 0
    have bk := ((NatAt.new (w.alloc (.cells (natC k p) 32)) j q).old (.cells (natC 0 zP) 32)).c0
    simp only [World.size_alloc] at bk
    go_enter Tryz.func42, Tryz.ntmps42
    go_wp2
    try rw [HSET.out]
    clear a0 ak af bk HSET
    go_loopg [18] (j : Nat) (fun g i wr => ∃ t : Nat, g = j - t ∧ t ≤ j ∧ i = .int .i64 (t : Int) ∧ NatAt wr w.heap.size j (combTo p q x y t) ∧ NatAt wr (w.heap.size + 1) j q ∧ NatAt wr (w.heap.size + 1 + 1) 0 zP ∧ Below w.heap.size w wr)
    case atStart => exact ⟨0, rfl, by omega, rfl, A, B, C, hB⟩
    case round =>
      obtain ⟨t, rfl, ht, rfl, hA, hQt, hC, hW⟩ := hrel
      clear A B C hB
      have hl : (combTo p q x y t).length = 204 := by rw [combTo_len]; exact hp
      by_cases hlt : (t : Int) < (j : Int)
      · have a1 := hA.cs t (by omega)
        have b1 := hQt.cs t (by omega)
        have hfr := hA.fr (1 + t)
        have ht2 : (t : Int) < 204 := by omega
        obtain ⟨c, hc⟩ : ∃ c, c = (combTo p q x y t).getD t 0 := ⟨_, rfl⟩
        obtain ⟨d, hd⟩ : ∃ d, d = q.getD t 0 := ⟨_, rfl⟩
        have hc0 : 0 ≤ c ∧ c < 1000000 := by
          rw [hc, combTo_get _ _ _ _ _ _ (by omega), if_neg (by omega)]; exact ⟨HP.out.lo t, HP.out.hi t⟩
        have hd0 : 0 ≤ d ∧ d < 1000000 := by rw [hd]; exact ⟨HQ.out.lo t, HQ.out.hi t⟩
        obtain ⟨e1, e2⟩ := mixPart_bd HX.out hc0.1 hc0.2
        obtain ⟨f1, f2⟩ := mixPart_bd HY.out hd0.1 hd0.2
        rw [← hc] at a1
        rw [← hd] at b1
        have HCD : Hid (c = (combTo p q x y t).getD t 0 ∧ d = q.getD t 0) := ⟨hc, hd⟩
        clear hc hd hc0 hd0
        go_wp2_with fail
        refine wp_region_still_tail 16 (by kernel_rfl) (by kernel_rfl) ?_
        simp only [List.take_succ_cons, List.take_zero, List.drop_succ_cons, List.drop_zero]
        repeat still_step
        refine wpStill_nil ?_
        go_wp2
        go_roundg (j - (t + 1))
        case measure => omega
        case rel =>
          obtain ⟨hc, hd⟩ := HCD.out
          refine ⟨t + 1, rfl, by omega, by go_num, ?_, ?_, ?_, ?_⟩
          · have h1 : NatAt wr.drew w.heap.size j (combTo p q x y t) := hA
            have h2 := h1.setS t (x * c + y * d)
            show NatAt _ _ _ ((combTo p q x y t).set t (x * (combTo p q x y t).getD t 0 + y * q.getD t 0))
            rw [← hc, ← hd]
            exact h2
          · exact hQt.grown (grownBy_set (w := wr) (wr := wr.drew) ⟨rfl, rfl, rfl, Nat.le_refl _, fun _ _ _ => rfl⟩ _ _) (by simp)
          · exact hC.grown (grownBy_set (w := wr) (wr := wr.drew) ⟨rfl, rfl, rfl, Nat.le_refl _, fun _ _ _ => rfl⟩ _ _) (by simp; omega)
          · exact (hW.drew).setCell (by simp) _
      · have htj : t = j := by omega
        subst htj
        have hWs := hW.size
        have hbd : Hid (CarryBd (combTo p q x y t)) := fun i => by
          rw [combTo_get _ _ _ _ _ _ (by omega)]
          have g1 := HP.out.lo i
          have g2 := HP.out.hi i
          have g3 := mixPart_bd HX.out (HP.out.lo i) (HP.out.hi i)
          have g4 := mixPart_bd HY.out (HQ.out.lo i) (HQ.out.hi i)
          split
          · exact ⟨by omega, by omega, fun _ => by omega⟩
          · exact ⟨by omega, by omega, fun _ => by omega⟩
        have hout : Hid (∀ i, t ≤ i → (combTo p q x y t).getD i 0 = 0) := fun i h1 => by
          rw [combTo_get _ _ _ _ _ _ (by omega), if_neg (by omega)]; exact HP.out.out i (by omega)
        have hval : Hid (vb 1000000 (combTo p q x y t) = (v : Int)) := by
          unfold Hid
          rw [comb_val HP.out HQ.out x y t (by omega) (by omega) (by omega)]
          exact HV.out
        go_wp2_with fail
        refine (carry_big w.heap.size t (combTo p q x y t) _ hl (by omega) hA hbd.out hout.out).mono ?_
        rintro e w2 ⟨ok, i, r, rfl, hr, hN2, hg2, hs2, hcase⟩
        have hR : Rep v i r := by
          rcases hcase with ⟨_, n', h1, h2⟩ | ⟨_, h1⟩
          · have : n' = v := by have := hval.out; omega
            rw [← this]; exact h2
          · have := hval.out; omega
        have hC2 := hC.grown hg2 (by simp; omega)
        have hW2 : Below w.heap.size w w2 := hW.grown hg2 (by omega) (by intro k hk; cases hk; omega)
        have HR : Hid (Rep v i r) := hR
        clear hA hQt hC hW hg2 hs2 hcase hR
        go_wp2_with (first | (refine load_nat rfl _ rfl w.heap.size rfl i r hN2 hr ?_) | (refine store_nat rfl _ _ rfl rfl (w.heap.size + 1 + 1) i r rfl rfl 0 zP hC2 zP_len hr ?_; intro w3 hN3 hg3 hs3))
        refine bodyPost_ret (v := .agg (natC i r)) (res_nat Tryz.results42 _ _ (w.heap.size + 1 + 1) _ _ rfl hN3 hr) rfl ⟨i, r, rfl, HR.out, ?_⟩
        exact hW2.grown hg3 (by have := hW2.size; omega) (by intro k hk; cases hk; omega)
  · have hset : (natC k p).setIfInBounds 0 (.int .i64 (k : Int)) = natC (k : Int) p := natC_set0 _ _ _
    have A := ((NatAt.new w (k : Int) p).old (.cells (natC j q) 32)).old (.cells (natC 0 zP) 32)
    have B := (NatAt.new (w.alloc (.cells (natC (k : Int) p) 32)) j q).old (.cells (natC 0 zP) 32)
    have C := NatAt.new ((w.alloc (.cells (natC (k : Int) p) 32)).alloc (.cells (natC j q) 32)) 0 zP
    have hB : Below w.heap.size w (((w.alloc (.cells (natC (k : Int) p) 32)).alloc (.cells (natC j q) 32)).alloc (.cells (natC 0 zP) 32)) := (((Below.refl _ _).alloc (Nat.le_refl _) _).alloc (by simp) _).alloc (by simp; omega) _
    simp only [World.size_alloc] at B C
    have HSET := hide hset
    have a0 := A.c0
    rw [← hset] at a0
    clear hset
    have ak := (((NatAt.new w k p).old (.cells (natC j q) 32)).old (.cells (natC 0 zP) 32)).c0
    have af := (((NatAt.new w k p).old (.cells (natC j q) 32)).old (.cells (natC 0 zP) 32)).fr 0
    have bk := ((NatAt.new (w.alloc (.cells (natC k p) 32)) j q).old (.cells (natC 0 zP) 32)).c0
    simp only [World.size_alloc] at bk
    go_enter Tryz.func42, Tryz.ntmps42
    go_wp2
    try rw [HSET.out]
    clear a0 ak af bk HSET
    go_loopg [18] (k : Nat) (fun g i wr => ∃ t : Nat, g = k - t ∧ t ≤ k ∧ i = .int .i64 (t : Int) ∧ NatAt wr w.heap.size k (combTo p q x y t) ∧ NatAt wr (w.heap.size + 1) j q ∧ NatAt wr (w.heap.size + 1 + 1) 0 zP ∧ Below w.heap.size w wr)
    case atStart => exact ⟨0, rfl, by omega, rfl, A, B, C, hB⟩
    case round =>
      obtain ⟨t, rfl, ht, rfl, hA, hQt, hC, hW⟩ := hrel
      clear A B C hB
      have hl : (combTo p q x y t).length = 204 := by rw [combTo_len]; exact hp
      by_cases hlt : (t : Int) < (k : Int)
      · have a1 := hA.cs t (by omega)
        have b1 := hQt.cs t (by omega)
        have hfr := hA.fr (1 + t)
        have ht2 : (t : Int) < 204 := by omega
        obtain ⟨c, hc⟩ : ∃ c, c = (combTo p q x y t).getD t 0 := ⟨_, rfl⟩
        obtain ⟨d, hd⟩ : ∃ d, d = q.getD t 0 := ⟨_, rfl⟩
        have hc0 : 0 ≤ c ∧ c < 1000000 := by
          rw [hc, combTo_get _ _ _ _ _ _ (by omega), if_neg (by omega)]; exact ⟨HP.out.lo t, HP.out.hi t⟩
        have hd0 : 0 ≤ d ∧ d < 1000000 := by rw [hd]; exact ⟨HQ.out.lo t, HQ.out.hi t⟩
        obtain ⟨e1, e2⟩ := mixPart_bd HX.out hc0.1 hc0.2
        obtain ⟨f1, f2⟩ := mixPart_bd HY.out hd0.1 hd0.2
        rw [← hc] at a1
        rw [← hd] at b1
        have HCD : Hid (c = (combTo p q x y t).getD t 0 ∧ d = q.getD t 0) := ⟨hc, hd⟩
        clear hc hd hc0 hd0
        go_wp2_with fail
        refine wp_region_still_tail 16 (by kernel_rfl) (by kernel_rfl) ?_
        simp only [List.take_succ_cons, List.take_zero, List.drop_succ_cons, List.drop_zero]
        repeat still_step
        refine wpStill_nil ?_
        go_wp2
        go_roundg (k - (t + 1))
        case measure => omega
        case rel =>
          obtain ⟨hc, hd⟩ := HCD.out
          refine ⟨t + 1, rfl, by omega, by go_num, ?_, ?_, ?_, ?_⟩
          · have h1 : NatAt wr.drew w.heap.size k (combTo p q x y t) := hA
            have h2 := h1.setS t (x * c + y * d)
            show NatAt _ _ _ ((combTo p q x y t).set t (x * (combTo p q x y t).getD t 0 + y * q.getD t 0))
            rw [← hc, ← hd]
            exact h2
          · exact hQt.grown (grownBy_set (w := wr) (wr := wr.drew) ⟨rfl, rfl, rfl, Nat.le_refl _, fun _ _ _ => rfl⟩ _ _) (by simp)
          · exact hC.grown (grownBy_set (w := wr) (wr := wr.drew) ⟨rfl, rfl, rfl, Nat.le_refl _, fun _ _ _ => rfl⟩ _ _) (by simp; omega)
          · exact (hW.drew).setCell (by simp) _
      · have htj : t = k := by omega
        subst htj
        have hWs := hW.size
        have hbd : Hid (CarryBd (combTo p q x y t)) := fun i => by
          rw [combTo_get _ _ _ _ _ _ (by omega)]
          have g1 := HP.out.lo i
          have g2 := HP.out.hi i
          have g3 := mixPart_bd HX.out (HP.out.lo i) (HP.out.hi i)
          have g4 := mixPart_bd HY.out (HQ.out.lo i) (HQ.out.hi i)
          split
          · exact ⟨by omega, by omega, fun _ => by omega⟩
          · exact ⟨by omega, by omega, fun _ => by omega⟩
        have hout : Hid (∀ i, t ≤ i → (combTo p q x y t).getD i 0 = 0) := fun i h1 => by
          rw [combTo_get _ _ _ _ _ _ (by omega), if_neg (by omega)]; exact HP.out.out i (by omega)
        have hval : Hid (vb 1000000 (combTo p q x y t) = (v : Int)) := by
          unfold Hid
          rw [comb_val HP.out HQ.out x y t (by omega) (by omega) (by omega)]
          exact HV.out
        go_wp2_with fail
        refine (carry_big w.heap.size t (combTo p q x y t) _ hl (by omega) hA hbd.out hout.out).mono ?_
        rintro e w2 ⟨ok, i, r, rfl, hr, hN2, hg2, hs2, hcase⟩
        have hR : Rep v i r := by
          rcases hcase with ⟨_, n', h1, h2⟩ | ⟨_, h1⟩
          · have : n' = v := by have := hval.out; omega
            rw [← this]; exact h2
          · have := hval.out; omega
        have hC2 := hC.grown hg2 (by simp; omega)
        have hW2 : Below w.heap.size w w2 := hW.grown hg2 (by omega) (by intro k hk; cases hk; omega)
        have HR : Hid (Rep v i r) := hR
        clear hA hQt hC hW hg2 hs2 hcase hR
        go_wp2_with (first | (refine load_nat rfl _ rfl w.heap.size rfl i r hN2 hr ?_) | (refine store_nat rfl _ _ rfl rfl (w.heap.size + 1 + 1) i r rfl rfl 0 zP hC2 zP_len hr ?_; intro w3 hN3 hg3 hs3))
        refine bodyPost_ret (v := .agg (natC i r)) (res_nat Tryz.results42 _ _ (w.heap.size + 1 + 1) _ _ rfl hN3 hr) rfl ⟨i, r, rfl, HR.out, ?_⟩
        exact hW2.grown hg3 (by have := hW2.size; omega) (by intro k hk; cases hk; omega)
end Go.Proofs.YtmfpnbmfcoahbaaGreatDoor

/-
  Digits of any radix: plain facts; what goodRadix, l1Radix, digitOf and l1Digit answer.
-/
namespace Go.Proofs.YtmfpnbmfcoahbaaGreatDoor
open Go.RowKit
set_option linter.unusedVariables false

/-- The radixes. -/
def radOk (r : Int) : Bool := r == 2 || (r == 8 || (r == 10 || r == 16))
theorem radOk_iff (r : Int) : radOk r = true ↔ (r = 2 ∨ r = 8 ∨ r = 10 ∨ r = 16) := by
  unfold radOk; simp

/-- What a byte is worth as a digit; of others 16. -/
def dg (c : UInt8) : Nat := (digI (c.toNat : Int)).toNat
theorem dg_le (c : UInt8) : dg c ≤ 16 := by
  unfold dg digI; split; omega; split; omega; split; omega; omega
theorem digI_bd (n : Int) (h : 0 ≤ n) : 0 ≤ digI n ∧ digI n ≤ 16 := by
  unfold digI; split; omega; split; omega; split; omega; omega
theorem dg_cast (c : UInt8) : (dg c : Int) = digI (c.toNat : Int) := by
  unfold dg; have := digI_bd (c.toNat : Int) (by omega); omega

/-- What digits of a radix tell. -/
def rval (b : Nat) (l : List UInt8) : Nat := l.foldl (fun n c => b * n + dg c) 0
theorem rval_snoc (b : Nat) (l : List UInt8) (c : UInt8) : rval b (l ++ [c]) = b * rval b l + dg c := by
  unfold rval; rw [List.foldl_append]; rfl
/-- Digits of the radix alone. -/
def rdigs (b : Nat) (l : List UInt8) : Bool := l.all (fun c => decide (dg c < b))

theorem rval_mono (b : Nat) (hb : 1 ≤ b) (l m : List UInt8) : rval b l ≤ rval b (l ++ m) := by
  induction m generalizing l with
  | nil => simp
  | cons c m ih =>
    have e : l ++ c :: m = (l ++ [c]) ++ m := by simp
    rw [e]
    have h1 := ih (l ++ [c])
    have h2 := rval_snoc b l c
    have h3 := Nat.mul_le_mul_right (rval b l) hb
    omega

theorem digitOf_any (n : Int) (w : World) (h0 : 0 ≤ n) (h1 : n ≤ 255) :
    Calls Tryz.prog 56 #[.int .u8 n] w fun e w' => e = .returned (.int .i64 (digI n)) ∧ w' = w := by
  by_cases ha : 48 ≤ n ∧ n ≤ 57
  · obtain ⟨a1, a2⟩ := ha
    have e : digI n = n - 48 := by unfold digI; rw [if_pos ⟨a1, a2⟩]
    rw [e]
    exact digitOf_dig n w a1 a2
  by_cases hb : 97 ≤ n ∧ n ≤ 102
  · have e : digI n = n - 97 + 10 := by unfold digI; rw [if_neg ha, if_pos hb]; omega
    obtain ⟨b1, b2⟩ := hb
    rw [e]
    clear ha e
    go_enter Tryz.func56, Tryz.ntmps56
    go_wp2
    go_ret
    exact ⟨rfl, rfl⟩
  by_cases hc : 65 ≤ n ∧ n ≤ 70
  · have e : digI n = n - 65 + 10 := by unfold digI; rw [if_neg ha, if_neg hb, if_pos hc]; omega
    obtain ⟨c1, c2⟩ := hc
    rw [e]
    clear ha hb e
    go_enter Tryz.func56, Tryz.ntmps56
    go_wp2
    go_ret
    exact ⟨rfl, rfl⟩
  have e : digI n = 16 := by unfold digI; rw [if_neg ha, if_neg hb, if_neg hc]
  rw [e]
  have hd : n < 48 ∨ (57 < n ∧ n < 65) ∨ (70 < n ∧ n < 97) ∨ 102 < n := by omega
  clear ha hb hc e
  rcases hd with hd | ⟨hd, hd'⟩ | ⟨hd, hd'⟩ | hd
  all_goals
    go_enter Tryz.func56, Tryz.ntmps56
    go_wp2
    go_ret
    exact ⟨rfl, rfl⟩

/-- What l1Digit tells: -1 of what is none. -/
def dig1 (n r : Int) : Int := if digI n < r ∧ digI n < 16 then digI n else -1

theorem dig1_of (c : UInt8) (b : Nat) (hb : b ≤ 16) : (dg c < b → dig1 (c.toNat : Int) (b : Int) = (dg c : Int)) ∧ (¬ dg c < b → dig1 (c.toNat : Int) (b : Int) = -1) := by
  have h := dg_cast c
  constructor
  · intro hc; unfold dig1; rw [← h, if_pos (by omega)]
  · intro hc; unfold dig1; rw [← h, if_neg (by omega)]
end Go.Proofs.YtmfpnbmfcoahbaaGreatDoor

/-
  What compare of impl's nats answers.
-/
namespace Go.Proofs.YtmfpnbmfcoahbaaGreatDoor
open Go.RowKit
set_option linter.unusedVariables false

/-- The parts below j held against each other, the greatest first. -/
def cmpAt (p q : List Int) : Nat → Int
  | 0 => 0
  | j + 1 => if p.getD j 0 = q.getD j 0 then cmpAt p q j else cmpI (p.getD j 0) (q.getD j 0)

end Go.Proofs.YtmfpnbmfcoahbaaGreatDoor
