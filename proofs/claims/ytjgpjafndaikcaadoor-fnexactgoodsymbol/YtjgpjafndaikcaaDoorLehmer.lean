/-
  What lead, gcdOf, sureSteps of impl answer.
-/
import Derived.Test.YtjgpjafndaikcaaDoorLehmerMath
import Derived.Test.YtjgpjafndaikcaaDoorPlus
import Derived.Deep.QuietTactic
import Derived.BigQuiet
namespace Go.Proofs.YtjgpjafndaikcaaDoor
open Go.RowKit
set_option linter.unusedVariables false

set_option maxHeartbeats 1000000 in
set_option maxRecDepth 100000 in
theorem lead_any {n k : Nat} {p : List Int} (T U : Nat) (w : World) (hP : Rep n k p) (hU : U = T + 3) (hT : U ≤ 204) :
    Calls Tryd.prog 44 #[.agg (natC k p), .int .i64 (U : Int)] w fun e w' =>
      e = .returned (.int .i64 ((p.getD (T + 2) 0 * 1000000 + p.getD (T + 1) 0) * 1000000 + p.getD T 0)) ∧ Below w.heap.size w w' := by
  have hp := hP.len
  have A := NatAt.new w k p
  have hB : Below w.heap.size w (w.alloc (.cells (natC k p) 35)) := (Below.refl _ _).alloc (Nat.le_refl _) _
  obtain ⟨T2, hT2⟩ : ∃ x, x = T + 2 := ⟨_, rfl⟩
  obtain ⟨T1, hT1⟩ : ∃ x, x = T + 1 := ⟨_, rfl⟩
  rw [← hT1, ← hT2]
  have a0 := A.cs T (by omega)
  have a1 := A.cs T1 (by omega)
  have a2 := A.cs T2 (by omega)
  obtain ⟨x0, hx0⟩ : ∃ x, x = p.getD T 0 := ⟨_, rfl⟩
  obtain ⟨x1, hx1⟩ : ∃ x, x = p.getD T1 0 := ⟨_, rfl⟩
  obtain ⟨x2, hx2⟩ : ∃ x, x = p.getD T2 0 := ⟨_, rfl⟩
  have g0 : 0 ≤ x0 ∧ x0 < 1000000 := by rw [hx0]; exact ⟨hP.lo _, hP.hi _⟩
  have g1 : 0 ≤ x1 ∧ x1 < 1000000 := by rw [hx1]; exact ⟨hP.lo _, hP.hi _⟩
  have g2 : 0 ≤ x2 ∧ x2 < 1000000 := by rw [hx2]; exact ⟨hP.lo _, hP.hi _⟩
  rw [← hx0] at a0
  rw [← hx1] at a1
  rw [← hx2] at a2
  rw [← hx0, ← hx1, ← hx2]
  obtain ⟨g00, g01⟩ := g0
  obtain ⟨g10, g11⟩ := g1
  obtain ⟨g20, g21⟩ := g2
  have hw1 : IntKind.i64.wrap ((U : Int) - 1) = (T2 : Int) := by rw [IntKind.wrap_i64]; omega
  have hw2 : IntKind.i64.wrap ((U : Int) - 2) = (T1 : Int) := by rw [IntKind.wrap_i64]; omega
  have hw3 : IntKind.i64.wrap ((U : Int) - 3) = (T : Int) := by rw [IntKind.wrap_i64]; omega
  have k0 : (T : Int) < 204 := by omega
  have k1 : (T1 : Int) < 204 := by omega
  have k2 : (T2 : Int) < 204 := by omega
  have hF : IntKind.i64.wrap (IntKind.i64.wrap (IntKind.i64.wrap (IntKind.i64.wrap (x2 * 1000000) + x1) * 1000000) + x0) = (x2 * 1000000 + x1) * 1000000 + x0 := by
    simp only [IntKind.wrap_i64]; omega
  have HF := hide hF
  clear hx0 hx1 hx2 hP A hT hU hT1 hT2 hp hF
  go_enter Tryd.func44, Tryd.ntmps44
  go_wp2_with fail
  generalize hWW : w.alloc (.cells (natC k p) 35) = W at a0 a1 a2 hB ⊢
  clear hWW
  refine wp_region_still_tail 19 (by kernel_rfl) (by kernel_rfl) ?_
  simp only [List.take_succ_cons, List.take_zero, List.drop_succ_cons, List.drop_zero]
  repeat (first | still_step | simp only [hw1, hw2, hw3])
  refine wpStill_nil ?_
  go_wp2_with fail
  go_ret
  exact ⟨by rw [HF.out]; rfl, hB.drew⟩

set_option maxHeartbeats 1000000 in
set_option maxRecDepth 100000 in
theorem gcdOf_any (x y : Int) (w : World) (hx0 : 0 ≤ x) (hx1 : x < 1000000000000000000) (hy0 : 0 ≤ y) (hy1 : y < 1000000000000000000) :
    Calls Tryd.prog 46 #[.int .i64 x, .int .i64 y] w fun e w' => e = .returned (.int .i64 ((Int.gcd x y : Nat) : Int)) ∧ Below w.heap.size w w' := by
  go_enter Tryd.func46, Tryd.ntmps46
  go_wp2
  go_loopg [0, 1] y.toNat (fun g v0 v1 wr => ∃ a b : Int, g = b.toNat ∧ v0 = .int .i64 a ∧ v1 = .int .i64 b ∧ 0 ≤ a ∧ a < 1000000000000000000 ∧ 0 ≤ b ∧ b < 1000000000000000000 ∧ Hid (Int.gcd a b = Int.gcd x y) ∧ Below w.heap.size w wr)
  case atStart => exact ⟨x, y, rfl, rfl, rfl, hx0, hx1, hy0, hy1, rfl, Below.refl _ _⟩
  case round =>
    obtain ⟨a, b, rfl, rfl, rfl, ha0, ha1, hb0, hb1, HG, hW⟩ := hrel
    by_cases h0 : 0 < b
    · have hne : ¬ b = 0 := by omega
      have hr0 : 0 ≤ a % b := Int.emod_nonneg _ hne
      have hr1 : a % b < b := Int.emod_lt_of_pos _ h0
      have HG' : Hid (Int.gcd b (a % b) = Int.gcd x y) := by
        unfold Hid
        have e : a % b = a + (-(a / b)) * b := by
          have := Int.mul_ediv_add_emod a b
          grind
        rw [← HG.out, Int.gcd_comm b (a % b), e]
        exact Int.gcd_add_mul_right_left ..
      go_wp2
      go_quiet (fail)
      go_wp2
      go_roundg (a % b).toNat
      case measure => omega
      case rel => exact ⟨b, a % b, rfl, rfl, rfl, hb0, hb1, hr0, by omega, HG', (⟨hW.os, hW.tape, hW.output, hW.size, hW.block⟩ : Below w.heap.size w (wr.drewN nq))⟩
    · have hb : b = 0 := by omega
      subst hb
      have hE : Hid (a = ((Int.gcd x y : Nat) : Int)) := by
        unfold Hid
        rw [← HG.out, Int.gcd_zero_right]
        omega
      go_wp2
      go_ret
      exact ⟨by rw [← hE.out]; rfl, hW⟩

/-- A mix in memory. -/
def mixC (n1 b1 n2 b2 : Int) : Array Value := #[.int .i64 n1, .int .i64 b1, .int .i64 n2, .int .i64 b2]
def MixAt (w : World) (b : Nat) (n1 b1 n2 b2 : Int) : Prop := w.heap[b]? = some (.cells (mixC n1 b1 n2 b2) 68 (0, 0))
theorem zero_mix : (∀ w, (zeroValue 68).run Tryd.prog w = .ok (.agg (mixC 0 0 0 0)) w) ∧ (Tryd.prog.info? 68).map (·.size) = some 4 := zero_of_info (by kernel_rfl)
theorem MixAt.c0 {w : World} {b : Nat} {n1 b1 n2 b2 : Int} (h : MixAt w b n1 b1 n2 b2) : w.cell? ⟨b, 0, none⟩ = some (.int .i64 n1) := by rw [cell_of_row w b _ _ _ _ h]; rfl
theorem MixAt.c1 {w : World} {b : Nat} {n1 b1 n2 b2 : Int} (h : MixAt w b n1 b1 n2 b2) : w.cell? ⟨b, 1, none⟩ = some (.int .i64 b1) := by rw [cell_of_row w b _ _ _ _ h]; rfl
theorem MixAt.c2 {w : World} {b : Nat} {n1 b1 n2 b2 : Int} (h : MixAt w b n1 b1 n2 b2) : w.cell? ⟨b, 2, none⟩ = some (.int .i64 n2) := by rw [cell_of_row w b _ _ _ _ h]; rfl
theorem MixAt.c3 {w : World} {b : Nat} {n1 b1 n2 b2 : Int} (h : MixAt w b n1 b1 n2 b2) : w.cell? ⟨b, 3, none⟩ = some (.int .i64 b2) := by rw [cell_of_row w b _ _ _ _ h]; rfl

theorem mix_info (n1 b1 n2 b2 : Int) : (Tryd.prog.info? 68).map (·.size) = some (mixC n1 b1 n2 b2).size := zero_mix.2
theorem mixC_one (n1 b1 n2 b2 : Int) : (mixC n1 b1 n2 b2).all (·.oneCell') = true := by
  rw [Array.all_eq_true_iff_forall_mem]
  intro v hv
  simp [mixC] at hv
  rcases hv with rfl | rfl | rfl | rfl <;> rfl
theorem MixAt.new (w : World) (n1 b1 n2 b2 : Int) : MixAt (w.alloc (.cells (mixC n1 b1 n2 b2) 68)) w.heap.size n1 b1 n2 b2 := heap_alloc_new _ _
theorem MixAt.lt {w : World} {b : Nat} {n1 b1 n2 b2 : Int} (h : MixAt w b n1 b1 n2 b2) : b < w.heap.size := block_lt_of_cell (a := ⟨b, 0, none⟩) h.c0
theorem MixAt.old {w : World} {b : Nat} {n1 b1 n2 b2 : Int} (h : MixAt w b n1 b1 n2 b2) (o : Obj) : MixAt (w.alloc o) b n1 b1 n2 b2 := by
  unfold MixAt; rw [Below.heap_alloc _ _ _ h.lt]; exact h
theorem MixAt.grown {w w' : World} {b : Nat} {n1 b1 n2 b2 : Int} {r : Option Nat} (h : MixAt w b n1 b1 n2 b2) (hg : w.grownBy w' r) (hr : some b ≠ r) : MixAt w' b n1 b1 n2 b2 := by
  unfold MixAt; rw [hg.block b h.lt hr]; exact h
theorem MixAt.below {w w' : World} {b B : Nat} {n1 b1 n2 b2 : Int} (h : MixAt w b n1 b1 n2 b2) (hg : Below B w w') (hr : b < B) : MixAt w' b n1 b1 n2 b2 := by
  unfold MixAt; rw [hg.block b hr]; exact h
theorem load_mix {ops : Array Oper} {rest : List Oper} {o : Oper} {a : Act} {w : World} {Q : Exit → Act → World → Prop} (hgd : o.guard = none) (x : Operand) (ho : o.op = .load 68 x)
    (b : Nat) (hx : a.eval x = .pointer (some ⟨b, 0, none⟩)) (n1 b1 n2 b2 : Int) (hN : MixAt w b n1 b1 n2 b2)
    (h : wpList Tryd.prog ops Q rest (a.put o.dst (.agg (mixC n1 b1 n2 b2))) w) : wpList Tryd.prog ops Q (o :: rest) a w :=
  wpList_load_row hgd 68 x ho b hx 68 (mixC n1 b1 n2 b2) (0, 0) _ hN Tryd.underlying68 rfl (mix_info n1 b1 n2 b2) h
theorem store_mix {ops : Array Oper} {rest : List Oper} {o : Oper} {a : Act} {w : World} {Q : Exit → Act → World → Prop} (hgd : o.guard = none) (x y : Operand) (ho : o.op = .store 68 x y) (hd : o.dst = none)
    (b : Nat) (n1 b1 n2 b2 : Int) (hx : a.eval x = .pointer (some ⟨b, 0, none⟩)) (hy : a.eval y = .agg (mixC n1 b1 n2 b2)) (m1 c1 m2 c2 : Int) (hN : MixAt w b m1 c1 m2 c2)
    (h : ∀ w', MixAt w' b n1 b1 n2 b2 → w.grownBy w' (some b) → w'.heap.size = w.heap.size → wpList Tryd.prog ops Q rest a w') : wpList Tryd.prog ops Q (o :: rest) a w := by
  refine wpList_store_row hgd 68 x y ho b (mixC n1 b1 n2 b2) hx hy 68 (mixC m1 c1 m2 c2) hN (mix_info n1 b1 n2 b2) rfl (mixC_one _ _ _ _) ?_
  rw [hd]
  refine h _ (setRow_heap w b _ _ _ _ hN) ⟨rfl, rfl, rfl, by simp, fun k _ hne => ?_⟩ (by simp)
  exact setRow_other w b k _ (by intro e; exact hne (by rw [e]))

theorem res_mix {fn : Func} {x : Tmp} (h : fn.results = #[.cell x 68]) (tmps : Array Value) (w : World) (b : Nat) (n1 b1 n2 b2 : Int)
    (hp : tmps.getD x undef = .pointer (some ⟨b, 0, none⟩)) (hN : MixAt w b n1 b1 n2 b2) : (results fn tmps).run Tryd.prog w = .ok (.agg (mixC n1 b1 n2 b2)) w :=
  results_cell_row h tmps w b 68 (mixC n1 b1 n2 b2) (0, 0) _ hp hN Tryd.underlying68 rfl (mix_info n1 b1 n2 b2)

set_option maxHeartbeats 1000000 in
set_option maxRecDepth 100000 in
theorem sureSteps_any (X Y S N' B' : Int) (w : World) (hX0 : 0 ≤ X) (hX1 : X < 1000000000000000000) (hY0 : 0 ≤ Y) (hY1 : Y < 1000000000000000000) (hN : 0 ≤ N') (hN1 : N' < S) (hB : 0 ≤ B') (hB1 : B' < S) :
    Calls Tryd.prog 47 #[.int .i64 X, .int .i64 Y] w fun e w' => ∃ x y n1 b1 n2 b2 : Int, e = .returned (.agg (mixC n1 b1 n2 b2)) ∧ Mix X Y (X * S + N') (Y * S + B') x y n1 b1 n2 b2 ∧ Below w.heap.size w w' := by
  have hz := zero_mix.1
  have A := (MixAt.new w 0 0 0 0).old (.cells (mixC 0 0 0 0) 68)
  have B := MixAt.new (w.alloc (.cells (mixC 0 0 0 0) 68)) 0 0 0 0
  have hBl : Below w.heap.size w ((w.alloc (.cells (mixC 0 0 0 0) 68)).alloc (.cells (mixC 0 0 0 0) 68)) := ((Below.refl _ _).alloc (Nat.le_refl _) _).alloc (by simp) _
  simp only [World.size_alloc] at B
  have HS : Hid (0 ≤ N' ∧ N' < S ∧ 0 ≤ B' ∧ B' < S) := ⟨hN, hN1, hB, hB1⟩
  clear hN hN1 hB hB1
  go_enter Tryd.func47, Tryd.ntmps47
  go_wp2_with (refine store_mix rfl _ _ rfl rfl (w.heap.size + 1) 1 0 0 1 rfl rfl 0 0 0 0 B ?_; intro w1 hM1 hg1 hs1)
  have A1 := A.grown hg1 (by simp)
  have hW1 : Below w.heap.size w w1 := hBl.grown hg1 (by simp; omega) (by intro k hk; cases hk; omega)
  clear A B hBl hg1 hs1
  go_loopg [0, 1] Y.toNat (fun g v0 v1 wr => ∃ x y n1 b1 n2 b2 : Int, g = y.toNat ∧ v0 = .int .i64 x ∧ v1 = .int .i64 y ∧ Hid (Mix X Y (X * S + N') (Y * S + B') x y n1 b1 n2 b2) ∧ MixAt wr (w.heap.size + 1) n1 b1 n2 b2 ∧ MixAt wr w.heap.size 0 0 0 0 ∧ Below w.heap.size w wr)
  case atStart => exact ⟨X, Y, 1, 0, 0, 1, rfl, rfl, rfl, Mix.start X Y _ _ hX0 hY0 hX1 hY1, hM1, A1, hW1⟩
  case round =>
    obtain ⟨x, y, n1, b1, n2, b2, rfl, rfl, rfl, HM, hM, hA, hW⟩ := hrel
    clear hM1 A1 hW1
    have c0 := hM.c0
    have c1 := hM.c1
    have c2 := hM.c2
    have c3 := hM.c3
    have x0 := HM.out.x0
    have y0 := HM.out.y0
    have x1 := HM.out.xy.1
    have y1 := HM.out.xy.2
    obtain ⟨⟨l1, u1⟩, ⟨l2, u2⟩, ⟨l3, u3⟩, ⟨l4, u4⟩⟩ := HM.out.bd
    have a1 := HM.out.a1
    have a2 := HM.out.a2
    have p1 := HM.out.c1
    have p2 := HM.out.c2
    by_cases d1 : y + n2 = 0
    · go_wp2_with (first | (refine load_mix rfl _ rfl (w.heap.size + 1) rfl n1 b1 n2 b2 hM ?_) | (refine store_mix rfl _ _ rfl rfl w.heap.size n1 b1 n2 b2 rfl rfl 0 0 0 0 hA ?_; intro w2 hM2 hg2 hs2))
      refine bodyPost_ret (v := .agg (mixC n1 b1 n2 b2)) (res_mix Tryd.results47 _ _ w.heap.size n1 b1 n2 b2 rfl hM2) rfl ⟨x, y, n1, b1, n2, b2, rfl, HM.out, hW.grown hg2 (by have := hW.size; omega) (by intro k hk; cases hk; omega)⟩
    · by_cases d2 : y + b2 = 0
      · go_wp2_with (first | (refine load_mix rfl _ rfl (w.heap.size + 1) rfl n1 b1 n2 b2 hM ?_) | (refine store_mix rfl _ _ rfl rfl w.heap.size n1 b1 n2 b2 rfl rfl 0 0 0 0 hA ?_; intro w2 hM2 hg2 hs2))
        refine bodyPost_ret (v := .agg (mixC n1 b1 n2 b2)) (res_mix Tryd.results47 _ _ w.heap.size n1 b1 n2 b2 rfl hM2) rfl ⟨x, y, n1, b1, n2, b2, rfl, HM.out, hW.grown hg2 (by have := hW.size; omega) (by intro k hk; cases hk; omega)⟩
      · have e1 : (y + n2 != 0) = true := by simp [d1]
        have e2 : (y + b2 != 0) = true := by simp [d2]
        obtain ⟨q, hq⟩ : ∃ q, (x + n1) / (y + n2) = q := ⟨_, rfl⟩
        by_cases d3 : (x + b1) / (y + b2) = q
        · obtain ⟨HM', q0, z0, s0, _, zy⟩ := Mix.step HM.out hX1 hY1 HS.out.1 HS.out.2.1 HS.out.2.2.1 HS.out.2.2.2 d1 d2 hq d3
          obtain ⟨_, _, ⟨l5, u5⟩, ⟨l6, u6⟩⟩ := HM'.bd
          have HM2 := hide HM'
          clear HM'
          have e3 : (q != q) = false := by simp
          go_wp2_with (refine store_mix rfl _ _ rfl rfl (w.heap.size + 1) n2 b2 (n1 - q * n2) (b1 - q * b2) rfl rfl n1 b1 n2 b2 hM ?_; intro w2 hM2 hg2 hs2)
          go_roundg (x - q * y).toNat
          case measure => omega
          case rel => exact ⟨y, x - q * y, n2, b2, n1 - q * n2, b1 - q * b2, rfl, rfl, rfl, HM2, hM2, hA.grown hg2 (by simp), hW.grown hg2 (by have := hW.size; omega) (by intro k hk; cases hk; omega)⟩
        · have e3 : (q != (x + b1) / (y + b2)) = true := by simp; exact fun h => d3 h.symm
          go_wp2_with (first | (refine load_mix rfl _ rfl (w.heap.size + 1) rfl n1 b1 n2 b2 hM ?_) | (refine store_mix rfl _ _ rfl rfl w.heap.size n1 b1 n2 b2 rfl rfl 0 0 0 0 hA ?_; intro w2 hM2 hg2 hs2))
          refine bodyPost_ret (v := .agg (mixC n1 b1 n2 b2)) (res_mix Tryd.results47 _ _ w.heap.size n1 b1 n2 b2 rfl hM2) rfl ⟨x, y, n1, b1, n2, b2, rfl, HM.out, hW.grown hg2 (by have := hW.size; omega) (by intro k hk; cases hk; omega)⟩
end Go.Proofs.YtjgpjafndaikcaaDoor
