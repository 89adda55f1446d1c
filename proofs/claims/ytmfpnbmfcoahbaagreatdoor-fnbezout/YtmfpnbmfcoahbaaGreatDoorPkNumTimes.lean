/-
  The texts NumTimes, Small, Added, one behind the other.
-/
import Derived.Test.YtmfpnbmfcoahbaaGreatDoorPkReadNumA
import Derived.Test.YtmfpnbmfcoahbaaGreatDoorPkFraction
import Derived.Test.YtmfpnbmfcoahbaaGreatDoorPkMinus
import Derived.Test.YtmfpnbmfcoahbaaGreatDoorPkMath
import Derived.Test.YtmfpnbmfcoahbaaGreatDoorFlt
import Derived.WalkLawsBesides

/-
  What turned of a fraction of impl answers (times: NumTimes2).
-/
namespace Go.Proofs.YtmfpnbmfcoahbaaGreatDoor
open Go.RowKit
set_option linter.unusedVariables false

/-- The sign of a whole number. -/
def sgn (g : Bool) (k : Nat) : Int := if k = 0 then 0 else if g then -1 else 1

end Go.Proofs.YtmfpnbmfcoahbaaGreatDoor

/-
  Small fractions of impl: isSmall, asComplex, smallWhole; the top of a sum by complex numbers.
-/
namespace Go.Proofs.YtmfpnbmfcoahbaaGreatDoor
open Go.RowKit
set_option linter.unusedVariables false

theorem NumAt.part0 {w : World} {b : Nat} {g : Bool} {u : Int} {p : List Int} {v : Int} {q : List Int} (h : NumAt w b g u p v q) (hp : p.length = 204) : w.cell? ⟨b, 2, none⟩ = some (.int .i64 (p.getD 0 0)) := by
  rw [cell_of_row w b 2 _ _ _ h]
  cases p with
  | nil => simp at hp
  | cons x p => simp [numC, natL]
theorem NumAt.bpart0 {w : World} {b : Nat} {g : Bool} {u : Int} {p : List Int} {v : Int} {q : List Int} (h : NumAt w b g u p v q) (hp : p.length = 204) (hq : q.length = 204) : w.cell? ⟨b, 207, none⟩ = some (.int .i64 (q.getD 0 0)) := by
  rw [cell_of_row w b 207 _ _ _ h, num_split2]
  simp only [List.getElem?_toArray, List.append_assoc]
  rw [List.getElem?_append_right (by simp [natL_len, hp])]
  cases q with
  | nil => simp at hq
  | cons x q => simp [hp, natL]

theorem Rep.little {n k : Nat} {p : List Int} (h : Rep n k p) (hk : k ≤ 1) : p.getD 0 0 = (n : Int) ∧ n < 1000000 := by
  have hp := h.len
  have hv := h.val
  rw [vb_split 1000000 p 1 (by omega), vb_zero _ (p.drop 1) (fun i => by rw [getD_drop]; exact h.out _ (by omega))] at hv
  have ht : p.take 1 = [p.getD 0 0] := by
    cases p with
    | nil => simp at hp
    | cons x p => simp
  rw [ht] at hv
  simp only [vb, Int.mul_zero, Int.add_zero] at hv
  have := h.hi 0
  omega

set_option maxHeartbeats 400000 in
theorem isSmall_any {k j : Nat} {p q : List Int} (g : Bool) (w : World) (hp : p.length = 204) :
    Calls Tryz.prog 72 #[.agg (numC g k p j q)] w fun e w' => e = .returned (.bool (decide (k ≤ 1) && decide (j ≤ 1))) ∧ Below w.heap.size w w' := by
  have A := NumAt.new w g k p j q
  have hB : Below w.heap.size w (w.alloc (.cells (numC g k p j q) 48)) := (Below.refl _ _).alloc (Nat.le_refl _) _
  have c1 := A.used
  have c2 := A.bused hp
  by_cases hk : (k : Int) ≤ 1
  · by_cases hj : (j : Int) ≤ 1
    · rw [decide_eq_true (show k ≤ 1 by omega), decide_eq_true (show j ≤ 1 by omega)]
      go_enter Tryz.func72, Tryz.ntmps72
      go_wp2
      go_ret
      exact ⟨rfl, hB⟩
    · rw [decide_eq_true (show k ≤ 1 by omega), decide_eq_false (show ¬ j ≤ 1 by omega)]
      go_enter Tryz.func72, Tryz.ntmps72
      go_wp2
      go_ret
      exact ⟨rfl, hB⟩
  · rw [decide_eq_false (show ¬ k ≤ 1 by omega)]
    go_enter Tryz.func72, Tryz.ntmps72
    go_wp2
    go_ret
    exact ⟨rfl, hB⟩

set_option maxHeartbeats 400000 in
theorem asComplex_any {n m k j : Nat} {p q : List Int} (g : Bool) (w : World) (hP : Rep n k p) (hQ : Rep m j q) (hk : k ≤ 1) (hj : j ≤ 1) :
    Calls Tryz.prog 73 #[.agg (numC g k p j q)] w fun e w' => ∃ x y : Nat, e = .returned (.complex .f64 x y) ∧ F64 x (m : Int) ∧ F64 y (sg g n) ∧ Below w.heap.size w w' := by
  have A := NumAt.new w g k p j q
  have hB : Below w.heap.size w (w.alloc (.cells (numC g k p j q) 48)) := (Below.refl _ _).alloc (Nat.le_refl _) _
  have c0 := A.neg
  have c1 := A.part0 hP.len
  have c2 := A.bpart0 hP.len hQ.len
  obtain ⟨e1, h1⟩ := hP.little hk
  obtain ⟨e2, h2⟩ := hQ.little hj
  rw [e1] at c1
  rw [e2] at c2
  have HF := hide (And.intro (F64.ofNat n (by omega)) (F64.ofNat m (by omega)))
  clear e1 e2 h1 h2 hP hQ
  have hneg : ∀ (x : Nat) (w : World), Sem.run Tryz.prog (Op.unary UnOp.neg (Value.float FloatKind.f64 x)) w = Result.ok (.float .f64 (Op.negFloat .f64 x)) w := fun _ _ => rfl
  cases g with
  | true =>
    go_enter Tryz.func73, Tryz.ntmps73
    go_wp2
    go_ret
    exact ⟨_, _, rfl, HF.out.2.1, HF.out.1.2, hB⟩
  | false =>
    go_enter Tryz.func73, Tryz.ntmps73
    go_wp2
    go_ret
    exact ⟨_, _, rfl, HF.out.2.1, HF.out.1.1, hB⟩

set_option maxHeartbeats 1000000 in
set_option maxRecDepth 100000 in
theorem smallWhole_any (z : Int) (w : World) (h1 : -400000000000000 ≤ z) (h2 : z ≤ 400000000000000) :
    Calls Tryz.prog 26 #[.int .i64 z] w fun e w' => ∃ (i : Nat) (r : List Int), e = .returned (.agg (wholeC (decide (z < 0)) i r)) ∧ Rep z.natAbs i r ∧ Below w.heap.size w w' := by
  have hz1 := zero_whole.1
  have C := WholeAt.new w false 0 zP
  have hB : Below w.heap.size w (w.alloc (.cells (wholeC false 0 zP) 36)) := (Below.refl _ _).alloc (Nat.le_refl _) _
  by_cases hz : z < 0
  · rw [decide_eq_true hz]
    go_enter Tryz.func26, Tryz.ntmps26
    go_wp2_with fail
    refine (natOf_any z.natAbs (-z) _ (by omega) (by omega) (by omega)).mono ?_
    rintro e w1 ⟨i, r, rfl, hR, hW1⟩
    have hr := hR.len
    have HR := hide hR
    have C1 : WholeAt w1 w.heap.size false 0 zP := RowAt.below C hW1 (by simp)
    have hB1 : Below w.heap.size w w1 := hB.trans (hW1.mono (by simp))
    clear hR C hB hW1
    go_wp2_with (first | (refine build_whole rfl _ _ rfl _ rfl true i r hr rfl rfl ?_) | (refine store_whole rfl _ _ rfl rfl w.heap.size true i r rfl rfl false 0 zP C1 zP_len hr ?_; intro w2 hN2 hg2 hs2))
    refine bodyPost_ret (v := .agg (wholeC true i r)) (res_whole Tryz.results26 _ _ w.heap.size _ _ _ rfl hN2 hr) rfl ⟨i, r, rfl, HR.out, ?_⟩
    exact hB1.grown hg2 (by have := hB1.size; omega) (by intro k hk; cases hk; omega)
  · rw [decide_eq_false hz]
    go_enter Tryz.func26, Tryz.ntmps26
    go_wp2_with fail
    refine (natOf_any z.natAbs z _ (by omega) (by omega) (by omega)).mono ?_
    rintro e w1 ⟨i, r, rfl, hR, hW1⟩
    have hr := hR.len
    have HR := hide hR
    have C1 : WholeAt w1 w.heap.size false 0 zP := RowAt.below C hW1 (by simp)
    have hB1 : Below w.heap.size w w1 := hB.trans (hW1.mono (by simp))
    clear hR C hB hW1
    go_wp2_with (first | (refine build_whole rfl _ _ rfl _ rfl false i r hr rfl rfl ?_) | (refine store_whole rfl _ _ rfl rfl w.heap.size false i r rfl rfl false 0 zP C1 zP_len hr ?_; intro w2 hN2 hg2 hs2))
    refine bodyPost_ret (v := .agg (wholeC false i r)) (res_whole Tryz.results26 _ _ w.heap.size _ _ _ rfl hN2 hr) rfl ⟨i, r, rfl, HR.out, ?_⟩
    exact hB1.grown hg2 (by have := hB1.size; omega) (by intro k hk; cases hk; omega)
end Go.Proofs.YtmfpnbmfcoahbaaGreatDoor

/-
  What scaled and added of impl's whole numbers, and negated of its fractions, answer.
-/
namespace Go.Proofs.YtmfpnbmfcoahbaaGreatDoor
open Go.RowKit
set_option linter.unusedVariables false

/-- The one operation that may come up: a whole number is written whole. -/
theorem held_store_whole {ops : Array Oper} {Q : Exit → Act → World → Prop} {md : Region.Mode} {S : World → Prop} {o : Oper} {fuel : Nat} {listed : Array Bool} {a : Act} {w : World} (i : Nat) (hr : Region.ready md ops listed = [i]) (hi : ops[i]? = some o) (hw : Region.wanted o (yielded ops a.tmps) = true) (x y : Operand) (ho : o.op = .store 36 x y) (hd : o.dst = none)
    (b : Nat) (g : Bool) (u : Int) (p : List Int) (hx : a.eval x = .pointer (some ⟨b, 0, none⟩)) (hy : a.eval y = .agg (wholeC g u p)) (g0 : Bool) (u0 : Int) (p0 : List Int) (hN : WholeAt w b g0 u0 p0) (h0 : p0.length = 204) (hl : p.length = 204)
    (h : ∀ w', WholeAt w' b g u p → w.grownBy w' (some b) → w'.heap.size = w.heap.size → S w' ∧ wpAnyH Tryz.prog md ops Q S fuel (listed.setIfInBounds i true) a w') : wpAnyH Tryz.prog md ops Q S (fuel + 1) listed a w := by
  refine wpAnyH_ready hr (by simp) (AllReadyH.cons hi (fun K hK => ?_) AllReadyH.nil)
  rw [if_pos hw]
  refine wp_store_row 36 x y ho b (wholeC g u p) hx hy 36 (wholeC g0 u0 p0) hN (whole_info g u p hl) (by rw [wholeC_size, wholeC_size, h0, hl]) (wholeC_one _ _ _) ?_
  rw [hd]
  have := h _ (setRow_heap w b _ _ _ _ hN) ⟨rfl, rfl, rfl, by simp, fun k _ hne => setRow_other w b k _ (by intro e; exact hne (by rw [e]))⟩ (by simp)
  exact hK.out _ _ this.1 (fun _ => this.2)

theorem run_row_nat' {o : Oper} {a : Act} {w : World} (x : Operand) (ho : o.op = .load 32 x) (b : Nat) (hx : a.eval x = .pointer (some ⟨b, 0, none⟩)) (u : Int) (p : List Int) (hN : NatAt w b u p) (hl : p.length = 204) : (execOp a.eval o).run Tryz.prog w = .ok (.value (.agg (natC u p))) w := by
  unfold execOp
  simp only [ho, hx, Instr.loadAt, Instr.sureAddr, Sem.run_bind, Sem.run_pure, Result.andThen_ok, run_loadVar_row w b 32 32 (natC u p) (0, 0) _ hN Tryz.underlying32 rfl (nat_info u p hl)]

set_option maxHeartbeats 1000000 in
set_option maxRecDepth 100000 in
theorem scaled_any {n m k j : Nat} {p q : List Int} (g : Bool) (w : World) (hP : Rep n k p) (hQ : Rep m j q) (hk : k ≤ 100) (hj : j ≤ 100) :
    Calls Tryz.prog 29 #[.agg (wholeC g k p), .agg (natC j q)] w fun e w' => ∃ (i : Nat) (r : List Int), e = .returned (.agg (wholeC g i r)) ∧ Rep (n * m) i r ∧ Below w.heap.size w w' := by
  have hz := zero_nat.1
  have hz1 := zero_whole.1
  have hp := hP.len
  have hq := hQ.len
  have A : WholeAt (((w.alloc (.cells (wholeC g k p) 36)).alloc (.cells (natC j q) 32)).alloc (.cells (wholeC false 0 zP) 36)) w.heap.size g k p := RowAt.old (RowAt.old (WholeAt.new w g k p) _) _
  have B : NatAt (((w.alloc (.cells (wholeC g k p) 36)).alloc (.cells (natC j q) 32)).alloc (.cells (wholeC false 0 zP) 36)) (w.heap.size + 1) j q := by
    have := (NatAt.new (w.alloc (.cells (wholeC g k p) 36)) j q).old (.cells (wholeC false 0 zP) 36)
    simp only [World.size_alloc] at this; exact this
  have C : WholeAt (((w.alloc (.cells (wholeC g k p) 36)).alloc (.cells (natC j q) 32)).alloc (.cells (wholeC false 0 zP) 36)) (w.heap.size + 1 + 1) false 0 zP := by
    have := WholeAt.new ((w.alloc (.cells (wholeC g k p) 36)).alloc (.cells (natC j q) 32)) false 0 zP
    simp only [World.size_alloc] at this; exact this
  have hB : Below w.heap.size w (((w.alloc (.cells (wholeC g k p) 36)).alloc (.cells (natC j q) 32)).alloc (.cells (wholeC false 0 zP) 36)) := (((Below.refl _ _).alloc (Nat.le_refl _) _).alloc (by simp) _).alloc (by simp; omega) _
  obtain ⟨W, hWd⟩ : ∃ W, W = (((w.alloc (.cells (wholeC g k p) 36)).alloc (.cells (natC j q) 32)).alloc (.cells (wholeC false 0 zP) 36)) := ⟨_, rfl⟩
  have hWs : W.heap.size = w.heap.size + 1 + 1 + 1 := by rw [hWd]; simp
  have HP := hide (And.intro hP hQ)
  clear hP hQ
  go_enter Tryz.func29, Tryz.ntmps29
  go_wp2_with fail
  rw [← hWd] at A B C hB ⊢
  clear hWd
  refine held_begin (fun w' => WholeAt w' w.heap.size g k p ∧ NatAt w' (w.heap.size + 1) j q) (by kernel_rfl) ?_
  have hS : WholeAt W.drew w.heap.size g k p ∧ NatAt W.drew (w.heap.size + 1) j q := ⟨A, B⟩
  refine held_valS 0 (some 5) rfl rfl (by kernel_rfl) (by kernel_rfl) (by kernel_rfl) noPanic_put rfl (.pointer (some ⟨w.heap.size, 0, none⟩)) (fun _ _ => by go_simp) hS ?_
  simp only [Act.put, List.setIfInBounds_toArray, List.set_cons_zero, List.set_cons_succ]
  refine held_valS 1 (some 6) rfl rfl (by kernel_rfl) (by kernel_rfl) (by kernel_rfl) noPanic_put rfl (.bool g) (fun _ h => by have c := h.1.neg; go_simp) hS ?_
  simp only [Act.put, List.setIfInBounds_toArray, List.set_cons_zero, List.set_cons_succ]
  refine held_valS 2 (some 7) rfl rfl (by kernel_rfl) (by kernel_rfl) (by kernel_rfl) noPanic_put rfl (.pointer (some ⟨w.heap.size, 1, none⟩)) (fun _ _ => by go_simp) hS ?_
  simp only [Act.put, List.setIfInBounds_toArray, List.set_cons_zero, List.set_cons_succ]
  refine held_valS 3 (some 8) rfl rfl (by kernel_rfl) (by kernel_rfl) (by kernel_rfl) noPanic_put rfl (.agg (natC k p)) (fun _ h => run_mid_nat _ rfl w.heap.size 1 rfl k p h.1.size hp) hS ?_
  simp only [Act.put, List.setIfInBounds_toArray, List.set_cons_zero, List.set_cons_succ]
  refine held_valS 4 (some 9) rfl rfl (by kernel_rfl) (by kernel_rfl) (by kernel_rfl) noPanic_put rfl (.agg (natC j q)) (fun _ h => run_row_nat' _ rfl (w.heap.size + 1) rfl j q h.2 hq) hS ?_
  simp only [Act.put, List.setIfInBounds_toArray, List.set_cons_zero, List.set_cons_succ]
  refine held_call 5 (some 10) (by kernel_rfl) rfl rfl rfl 48 #[.agg (natC k p), .agg (natC j q)] (by go_simp) _ (times_any W.drew HP.out.1 HP.out.2 hk hj) ?_
  rintro e w1 ⟨i, r, rfl, hR1, hW1⟩
  have hW1 : Below W.heap.size W w1 := ⟨hW1.os, hW1.tape, hW1.output, hW1.size, hW1.block⟩
  have hs1 := hW1.size
  have hr := hR1.len
  have HR1 := hide hR1
  have S1 : WholeAt w1 w.heap.size g k p ∧ NatAt w1 (w.heap.size + 1) j q := ⟨RowAt.below A hW1 (by omega), B.below hW1 (by omega)⟩
  have C1 : WholeAt w1 (w.heap.size + 1 + 1) false 0 zP := RowAt.below C hW1 (by omega)
  have hB1 : Below w.heap.size w w1 := hB.trans (hW1.mono hB.size)
  clear A B C hB hS hR1 hW1
  refine ⟨_, rfl, S1, ?_⟩
  simp only [Act.put, List.setIfInBounds_toArray, List.set_cons_zero, List.set_cons_succ]
  refine held_valS 6 (some 11) rfl rfl (by kernel_rfl) (by kernel_rfl) (by kernel_rfl) noPanic_put rfl (.agg (wholeC g i r)) (fun _ _ => run_bw _ _ rfl g i r hr rfl rfl) S1 ?_
  simp only [Act.put, List.setIfInBounds_toArray, List.set_cons_zero, List.set_cons_succ]
  refine held_store_whole 7 (by kernel_rfl) rfl rfl _ _ rfl rfl (w.heap.size + 1 + 1) g i r rfl rfl false 0 zP C1 zP_len hr ?_
  intro w2 hN2 hg2 hs2
  refine ⟨⟨RowAt.grown S1.1 hg2 (by simp; omega), S1.2.grown hg2 (by simp)⟩, ?_⟩
  refine wpAnyH_done (by kernel_rfl) ?_ _
  refine NoPanic.normal ?_
  go_wp2
  refine bodyPost_ret (v := .agg (wholeC g i r)) (res_whole Tryz.results29 _ _ (w.heap.size + 1 + 1) _ _ _ rfl hN2 hr) rfl ⟨i, r, rfl, HR1.out, ?_⟩
  exact hB1.grown hg2 (by have := hB1.size; omega) (by intro k hk; cases hk; omega)

set_option maxHeartbeats 1000000 in
set_option maxRecDepth 100000 in
theorem added_true_true {n m k j : Nat} {p q : List Int} (w : World) (hP : Rep n k p) (hQ : Rep m j q) (hk : k ≤ 201) (hj : j ≤ 201) (h0 : n ≠ 0) :
    Calls Tryz.prog 50 #[.agg (wholeC true k p), .agg (wholeC true j q)] w fun e w' => ∃ (i : Nat) (r : List Int), e = .returned (.agg (wholeC (decide (sg true n + sg true m < 0)) i r)) ∧ Rep (sg true n + sg true m).natAbs i r ∧ Below w.heap.size w w' := by
  have hz := zero_nat.1
  have hz1 := zero_whole.1
  have hp := hP.len
  have hq := hQ.len
  have A : WholeAt (((w.alloc (.cells (wholeC true k p) 36)).alloc (.cells (wholeC true j q) 36)).alloc (.cells (wholeC false 0 zP) 36)) w.heap.size true k p := RowAt.old (RowAt.old (WholeAt.new w true k p) _) _
  have B : WholeAt (((w.alloc (.cells (wholeC true k p) 36)).alloc (.cells (wholeC true j q) 36)).alloc (.cells (wholeC false 0 zP) 36)) (w.heap.size + 1) true j q := by
    have := RowAt.old (WholeAt.new (w.alloc (.cells (wholeC true k p) 36)) true j q) (.cells (wholeC false 0 zP) 36)
    simp only [World.size_alloc] at this; exact this
  have C : WholeAt (((w.alloc (.cells (wholeC true k p) 36)).alloc (.cells (wholeC true j q) 36)).alloc (.cells (wholeC false 0 zP) 36)) (w.heap.size + 1 + 1) false 0 zP := by
    have := WholeAt.new ((w.alloc (.cells (wholeC true k p) 36)).alloc (.cells (wholeC true j q) 36)) false 0 zP
    simp only [World.size_alloc] at this; exact this
  have hB : Below w.heap.size w (((w.alloc (.cells (wholeC true k p) 36)).alloc (.cells (wholeC true j q) 36)).alloc (.cells (wholeC false 0 zP) 36)) := (((Below.refl _ _).alloc (Nat.le_refl _) _).alloc (by simp) _).alloc (by simp; omega) _
  obtain ⟨W, hWd⟩ : ∃ W, W = (((w.alloc (.cells (wholeC true k p) 36)).alloc (.cells (wholeC true j q) 36)).alloc (.cells (wholeC false 0 zP) 36)) := ⟨_, rfl⟩
  have hWs : W.heap.size = w.heap.size + 1 + 1 + 1 := by rw [hWd]; simp
  have HP := hide (And.intro hP hQ)
  clear hP hQ
  have a0 := A.neg
  have b0 := B.neg
  have HS : Hid (decide (sg true n + sg true m < 0) = true ∧ (sg true n + sg true m).natAbs = n + m) := ⟨decide_eq_true (by simp [sg]; omega), by simp [sg]; omega⟩
  clear h0
  go_enter Tryz.func50, Tryz.ntmps50
  go_wp2_with fail
  rw [← hWd] at A B C hB ⊢
  clear hWd a0 b0
  refine held_begin (fun w' => WholeAt w' w.heap.size true k p ∧ WholeAt w' (w.heap.size + 1) true j q) (by kernel_rfl) ?_
  have hS : WholeAt W.drew w.heap.size true k p ∧ WholeAt W.drew (w.heap.size + 1) true j q := ⟨A, B⟩
  refine held_valS 0 (some 12) rfl rfl (by kernel_rfl) (by kernel_rfl) (by kernel_rfl) noPanic_put rfl (.pointer (some ⟨w.heap.size, 0, none⟩)) (fun _ _ => by go_simp) hS ?_
  simp only [Act.put, List.setIfInBounds_toArray, List.set_cons_zero, List.set_cons_succ]
  refine held_valS 1 (some 13) rfl rfl (by kernel_rfl) (by kernel_rfl) (by kernel_rfl) noPanic_put rfl (.bool true) (fun _ h => by have c := h.1.neg; go_simp) hS ?_
  simp only [Act.put, List.setIfInBounds_toArray, List.set_cons_zero, List.set_cons_succ]
  refine held_valS 2 (some 14) rfl rfl (by kernel_rfl) (by kernel_rfl) (by kernel_rfl) noPanic_put rfl (.pointer (some ⟨w.heap.size, 1, none⟩)) (fun _ _ => by go_simp) hS ?_
  simp only [Act.put, List.setIfInBounds_toArray, List.set_cons_zero, List.set_cons_succ]
  refine held_valS 3 (some 15) rfl rfl (by kernel_rfl) (by kernel_rfl) (by kernel_rfl) noPanic_put rfl (.agg (natC k p)) (fun _ h => run_mid_nat _ rfl w.heap.size 1 rfl k p h.1.size hp) hS ?_
  simp only [Act.put, List.setIfInBounds_toArray, List.set_cons_zero, List.set_cons_succ]
  refine held_valS 4 (some 16) rfl rfl (by kernel_rfl) (by kernel_rfl) (by kernel_rfl) noPanic_put rfl (.pointer (some ⟨w.heap.size + 1, 1, none⟩)) (fun _ _ => by go_simp) hS ?_
  simp only [Act.put, List.setIfInBounds_toArray, List.set_cons_zero, List.set_cons_succ]
  refine held_valS 5 (some 17) rfl rfl (by kernel_rfl) (by kernel_rfl) (by kernel_rfl) noPanic_put rfl (.agg (natC j q)) (fun _ h => run_mid_nat _ rfl (w.heap.size + 1) 1 rfl j q h.2.size hq) hS ?_
  simp only [Act.put, List.setIfInBounds_toArray, List.set_cons_zero, List.set_cons_succ]
  refine held_call 6 (some 18) (by kernel_rfl) rfl rfl rfl 71 #[.agg (natC k p), .agg (natC j q)] (by go_simp) _ (plus_wide W.drew HP.out.1 HP.out.2 (by omega) (by omega)) ?_
  rintro e w1 ⟨i, r, rfl, hR1, hW1⟩
  have hW1 : Below W.heap.size W w1 := ⟨hW1.os, hW1.tape, hW1.output, hW1.size, hW1.block⟩
  have hs1 := hW1.size
  have hr := hR1.len
  have HR1 := hide hR1
  have S1 : WholeAt w1 w.heap.size true k p ∧ WholeAt w1 (w.heap.size + 1) true j q := ⟨RowAt.below A hW1 (by omega), RowAt.below B hW1 (by omega)⟩
  have C1 : WholeAt w1 (w.heap.size + 1 + 1) false 0 zP := RowAt.below C hW1 (by omega)
  have hB1 : Below w.heap.size w w1 := hB.trans (hW1.mono hB.size)
  clear A B C hB hS hR1 hW1
  refine ⟨_, rfl, S1, ?_⟩
  simp only [Act.put, List.setIfInBounds_toArray, List.set_cons_zero, List.set_cons_succ]
  refine held_valS 7 (some 19) rfl rfl (by kernel_rfl) (by kernel_rfl) (by kernel_rfl) noPanic_put rfl (.agg (wholeC true i r)) (fun _ _ => run_bw _ _ rfl true i r hr rfl rfl) S1 ?_
  simp only [Act.put, List.setIfInBounds_toArray, List.set_cons_zero, List.set_cons_succ]
  refine held_store_whole 8 (by kernel_rfl) rfl rfl _ _ rfl rfl (w.heap.size + 1 + 1) true i r rfl rfl false 0 zP C1 zP_len hr ?_
  intro w2 hN2 hg2 hs2
  refine ⟨⟨RowAt.grown S1.1 hg2 (by simp; omega), RowAt.grown S1.2 hg2 (by simp)⟩, ?_⟩
  refine wpAnyH_done (by kernel_rfl) ?_ _
  refine NoPanic.normal ?_
  go_wp2
  refine bodyPost_ret (v := .agg (wholeC true i r)) (res_whole Tryz.results50 _ _ (w.heap.size + 1 + 1) _ _ _ rfl hN2 hr) rfl ⟨i, r, by rw [HS.out.1], by rw [HS.out.2]; exact HR1.out, ?_⟩
  exact hB1.grown hg2 (by have := hB1.size; omega) (by intro k hk; cases hk; omega)

set_option maxHeartbeats 1000000 in
set_option maxRecDepth 100000 in
theorem added_false_false {n m k j : Nat} {p q : List Int} (w : World) (hP : Rep n k p) (hQ : Rep m j q) (hk : k ≤ 201) (hj : j ≤ 201) :
    Calls Tryz.prog 50 #[.agg (wholeC false k p), .agg (wholeC false j q)] w fun e w' => ∃ (i : Nat) (r : List Int), e = .returned (.agg (wholeC (decide (sg false n + sg false m < 0)) i r)) ∧ Rep (sg false n + sg false m).natAbs i r ∧ Below w.heap.size w w' := by
  have hz := zero_nat.1
  have hz1 := zero_whole.1
  have hp := hP.len
  have hq := hQ.len
  have A : WholeAt (((w.alloc (.cells (wholeC false k p) 36)).alloc (.cells (wholeC false j q) 36)).alloc (.cells (wholeC false 0 zP) 36)) w.heap.size false k p := RowAt.old (RowAt.old (WholeAt.new w false k p) _) _
  have B : WholeAt (((w.alloc (.cells (wholeC false k p) 36)).alloc (.cells (wholeC false j q) 36)).alloc (.cells (wholeC false 0 zP) 36)) (w.heap.size + 1) false j q := by
    have := RowAt.old (WholeAt.new (w.alloc (.cells (wholeC false k p) 36)) false j q) (.cells (wholeC false 0 zP) 36)
    simp only [World.size_alloc] at this; exact this
  have C : WholeAt (((w.alloc (.cells (wholeC false k p) 36)).alloc (.cells (wholeC false j q) 36)).alloc (.cells (wholeC false 0 zP) 36)) (w.heap.size + 1 + 1) false 0 zP := by
    have := WholeAt.new ((w.alloc (.cells (wholeC false k p) 36)).alloc (.cells (wholeC false j q) 36)) false 0 zP
    simp only [World.size_alloc] at this; exact this
  have hB : Below w.heap.size w (((w.alloc (.cells (wholeC false k p) 36)).alloc (.cells (wholeC false j q) 36)).alloc (.cells (wholeC false 0 zP) 36)) := (((Below.refl _ _).alloc (Nat.le_refl _) _).alloc (by simp) _).alloc (by simp; omega) _
  obtain ⟨W, hWd⟩ : ∃ W, W = (((w.alloc (.cells (wholeC false k p) 36)).alloc (.cells (wholeC false j q) 36)).alloc (.cells (wholeC false 0 zP) 36)) := ⟨_, rfl⟩
  have hWs : W.heap.size = w.heap.size + 1 + 1 + 1 := by rw [hWd]; simp
  have HP := hide (And.intro hP hQ)
  clear hP hQ
  have a0 := A.neg
  have b0 := B.neg
  have HS : Hid (decide (sg false n + sg false m < 0) = false ∧ (sg false n + sg false m).natAbs = n + m) := ⟨decide_eq_false (by simp [sg]; omega), by simp [sg]; omega⟩
  go_enter Tryz.func50, Tryz.ntmps50
  go_wp2_with fail
  rw [← hWd] at A B C hB ⊢
  clear hWd a0 b0
  refine held_begin (fun w' => WholeAt w' w.heap.size false k p ∧ WholeAt w' (w.heap.size + 1) false j q) (by kernel_rfl) ?_
  have hS : WholeAt W.drew w.heap.size false k p ∧ WholeAt W.drew (w.heap.size + 1) false j q := ⟨A, B⟩
  refine held_valS 0 (some 12) rfl rfl (by kernel_rfl) (by kernel_rfl) (by kernel_rfl) noPanic_put rfl (.pointer (some ⟨w.heap.size, 0, none⟩)) (fun _ _ => by go_simp) hS ?_
  simp only [Act.put, List.setIfInBounds_toArray, List.set_cons_zero, List.set_cons_succ]
  refine held_valS 1 (some 13) rfl rfl (by kernel_rfl) (by kernel_rfl) (by kernel_rfl) noPanic_put rfl (.bool false) (fun _ h => by have c := h.1.neg; go_simp) hS ?_
  simp only [Act.put, List.setIfInBounds_toArray, List.set_cons_zero, List.set_cons_succ]
  refine held_valS 2 (some 14) rfl rfl (by kernel_rfl) (by kernel_rfl) (by kernel_rfl) noPanic_put rfl (.pointer (some ⟨w.heap.size, 1, none⟩)) (fun _ _ => by go_simp) hS ?_
  simp only [Act.put, List.setIfInBounds_toArray, List.set_cons_zero, List.set_cons_succ]
  refine held_valS 3 (some 15) rfl rfl (by kernel_rfl) (by kernel_rfl) (by kernel_rfl) noPanic_put rfl (.agg (natC k p)) (fun _ h => run_mid_nat _ rfl w.heap.size 1 rfl k p h.1.size hp) hS ?_
  simp only [Act.put, List.setIfInBounds_toArray, List.set_cons_zero, List.set_cons_succ]
  refine held_valS 4 (some 16) rfl rfl (by kernel_rfl) (by kernel_rfl) (by kernel_rfl) noPanic_put rfl (.pointer (some ⟨w.heap.size + 1, 1, none⟩)) (fun _ _ => by go_simp) hS ?_
  simp only [Act.put, List.setIfInBounds_toArray, List.set_cons_zero, List.set_cons_succ]
  refine held_valS 5 (some 17) rfl rfl (by kernel_rfl) (by kernel_rfl) (by kernel_rfl) noPanic_put rfl (.agg (natC j q)) (fun _ h => run_mid_nat _ rfl (w.heap.size + 1) 1 rfl j q h.2.size hq) hS ?_
  simp only [Act.put, List.setIfInBounds_toArray, List.set_cons_zero, List.set_cons_succ]
  refine held_call 6 (some 18) (by kernel_rfl) rfl rfl rfl 71 #[.agg (natC k p), .agg (natC j q)] (by go_simp) _ (plus_wide W.drew HP.out.1 HP.out.2 (by omega) (by omega)) ?_
  rintro e w1 ⟨i, r, rfl, hR1, hW1⟩
  have hW1 : Below W.heap.size W w1 := ⟨hW1.os, hW1.tape, hW1.output, hW1.size, hW1.block⟩
  have hs1 := hW1.size
  have hr := hR1.len
  have HR1 := hide hR1
  have S1 : WholeAt w1 w.heap.size false k p ∧ WholeAt w1 (w.heap.size + 1) false j q := ⟨RowAt.below A hW1 (by omega), RowAt.below B hW1 (by omega)⟩
  have C1 : WholeAt w1 (w.heap.size + 1 + 1) false 0 zP := RowAt.below C hW1 (by omega)
  have hB1 : Below w.heap.size w w1 := hB.trans (hW1.mono hB.size)
  clear A B C hB hS hR1 hW1
  refine ⟨_, rfl, S1, ?_⟩
  simp only [Act.put, List.setIfInBounds_toArray, List.set_cons_zero, List.set_cons_succ]
  refine held_valS 7 (some 19) rfl rfl (by kernel_rfl) (by kernel_rfl) (by kernel_rfl) noPanic_put rfl (.agg (wholeC false i r)) (fun _ _ => run_bw _ _ rfl false i r hr rfl rfl) S1 ?_
  simp only [Act.put, List.setIfInBounds_toArray, List.set_cons_zero, List.set_cons_succ]
  refine held_store_whole 8 (by kernel_rfl) rfl rfl _ _ rfl rfl (w.heap.size + 1 + 1) false i r rfl rfl false 0 zP C1 zP_len hr ?_
  intro w2 hN2 hg2 hs2
  refine ⟨⟨RowAt.grown S1.1 hg2 (by simp; omega), RowAt.grown S1.2 hg2 (by simp)⟩, ?_⟩
  refine wpAnyH_done (by kernel_rfl) ?_ _
  refine NoPanic.normal ?_
  go_wp2
  refine bodyPost_ret (v := .agg (wholeC false i r)) (res_whole Tryz.results50 _ _ (w.heap.size + 1 + 1) _ _ _ rfl hN2 hr) rfl ⟨i, r, by rw [HS.out.1], by rw [HS.out.2]; exact HR1.out, ?_⟩
  exact hB1.grown hg2 (by have := hB1.size; omega) (by intro k hk; cases hk; omega)

set_option maxHeartbeats 1000000 in
set_option maxRecDepth 100000 in
theorem added_true_false {n m k j : Nat} {p q : List Int} (w : World) (hP : Rep n k p) (hQ : Rep m j q) (hk : k ≤ 201) (hj : j ≤ 201) :
    Calls Tryz.prog 50 #[.agg (wholeC true k p), .agg (wholeC false j q)] w fun e w' => ∃ (i : Nat) (r : List Int), e = .returned (.agg (wholeC (decide (sg true n + sg false m < 0)) i r)) ∧ Rep (sg true n + sg false m).natAbs i r ∧ Below w.heap.size w w' := by
  have hz := zero_nat.1
  have hz1 := zero_whole.1
  have hp := hP.len
  have hq := hQ.len
  have A : WholeAt (((w.alloc (.cells (wholeC true k p) 36)).alloc (.cells (wholeC false j q) 36)).alloc (.cells (wholeC false 0 zP) 36)) w.heap.size true k p := RowAt.old (RowAt.old (WholeAt.new w true k p) _) _
  have B : WholeAt (((w.alloc (.cells (wholeC true k p) 36)).alloc (.cells (wholeC false j q) 36)).alloc (.cells (wholeC false 0 zP) 36)) (w.heap.size + 1) false j q := by
    have := RowAt.old (WholeAt.new (w.alloc (.cells (wholeC true k p) 36)) false j q) (.cells (wholeC false 0 zP) 36)
    simp only [World.size_alloc] at this; exact this
  have C : WholeAt (((w.alloc (.cells (wholeC true k p) 36)).alloc (.cells (wholeC false j q) 36)).alloc (.cells (wholeC false 0 zP) 36)) (w.heap.size + 1 + 1) false 0 zP := by
    have := WholeAt.new ((w.alloc (.cells (wholeC true k p) 36)).alloc (.cells (wholeC false j q) 36)) false 0 zP
    simp only [World.size_alloc] at this; exact this
  have hB : Below w.heap.size w (((w.alloc (.cells (wholeC true k p) 36)).alloc (.cells (wholeC false j q) 36)).alloc (.cells (wholeC false 0 zP) 36)) := (((Below.refl _ _).alloc (Nat.le_refl _) _).alloc (by simp) _).alloc (by simp; omega) _
  obtain ⟨W, hWd⟩ : ∃ W, W = (((w.alloc (.cells (wholeC true k p) 36)).alloc (.cells (wholeC false j q) 36)).alloc (.cells (wholeC false 0 zP) 36)) := ⟨_, rfl⟩
  have hWs : W.heap.size = w.heap.size + 1 + 1 + 1 := by rw [hWd]; simp
  have HP := hide (And.intro hP hQ)
  clear hP hQ
  have a0 := A.neg
  have b0 := B.neg
  go_enter Tryz.func50, Tryz.ntmps50
  go_wp2_with (first | (refine load_mid_nat rfl _ rfl w.heap.size 1 rfl k p A.size hp ?_) | (refine load_mid_nat rfl _ rfl (w.heap.size + 1) 1 rfl j q B.size hq ?_))
  rw [← hWd] at A B C hB ⊢
  clear hWd a0 b0
  refine (minus_any 1 0 W HP.out.1 HP.out.2 (by omega) (by omega) (by omega) (by omega)).mono ?_
  rintro e w1 (⟨i, r, x, rfl, hR1, hx, hW1⟩ | ⟨rfl, hx, hW1⟩)
  · have hs1 := hW1.size
    have hr := hR1.len
    have HR1 := hide hR1
    have hx' : (x : Int) = (n : Int) - (m : Int) := by simpa using hx
    have HX : Hid ((true && decide (0 < i)) = decide (sg true n + sg false m < 0) ∧ (sg true n + sg false m).natAbs = x) := by
      have hz := hR1.zero_iff
      have h1 : (sg true n + sg false m) = sg true x := by simp only [sg, if_true, Bool.false_eq_true, if_false]; omega
      rw [h1, sg_abs]
      refine ⟨?_, rfl⟩
      by_cases e : i = 0
      · have := hz.1 e; subst this; subst e; simp [sg]
      · have e2 : x ≠ 0 := fun e' => e (hz.2 e')
        simp only [sg, if_true, decide_eq_true (show 0 < i by omega)]
        first | (rw [decide_eq_true (show -(x : Int) < 0 by omega)]; rfl) | (rw [decide_eq_false (show ¬ (x : Int) < 0 by omega)]; rfl)
    have A1 : WholeAt w1 w.heap.size true k p := RowAt.below A hW1 (by omega)
    have C1 : WholeAt w1 (w.heap.size + 1 + 1) false 0 zP := RowAt.below C hW1 (by omega)
    have hB1 : Below w.heap.size w w1 := hB.trans (hW1.mono hB.size)
    have F1 := NatAt.new w1 0 zP
    clear A B C hB hR1 hW1 hx hx'
    go_wp2_with (first | (refine store_nat rfl _ _ rfl rfl w1.heap.size i r rfl rfl 0 zP F1 zP_len hr ?_; intro w2 hN2 hg2 hs2; have A2 : WholeAt w2 w.heap.size true k p := RowAt.grown (RowAt.old A1 (.cells (natC 0 zP) 32)) hg2 (by simp; omega); have a2 := A2.neg) | (refine load_nat rfl _ rfl w1.heap.size rfl i r hN2 hr ?_))
    have C2 : WholeAt w2 (w.heap.size + 1 + 1) false 0 zP := RowAt.grown (RowAt.old C1 (.cells (natC 0 zP) 32)) hg2 (by simp; omega)
    have hB2 : Below w.heap.size w w2 := (hB1.alloc (by have := hB1.size; omega) _).grown hg2 (by have := hB1.size; simp; omega) (by intro k hk; cases hk; omega)
    have hs2' : w2.heap.size = w1.heap.size + 1 := by rw [hs2]; simp
    refine (wholeOf_any true i r w2 hr).mono ?_
    rintro e w3 ⟨rfl, hW3⟩
    have C3 : WholeAt w3 (w.heap.size + 1 + 1) false 0 zP := RowAt.below C2 hW3 (by omega)
    have hB3 : Below w.heap.size w w3 := hB2.trans (hW3.mono hB2.size)
    obtain ⟨G, hG⟩ : ∃ G, G = (true && decide (0 < i)) := ⟨_, rfl⟩
    rw [← hG]
    have HG := hide hG
    clear hG A1 C1 F1 hN2 hg2 hs2 A2 a2 C2 hB1 hB2 hW3
    go_wp2_with (refine store_whole rfl _ _ rfl rfl (w.heap.size + 1 + 1) G i r rfl rfl false 0 zP C3 zP_len hr ?_; intro w4 hN4 hg4 hs4)
    refine bodyPost_ret (v := .agg (wholeC G i r)) (res_whole Tryz.results50 _ _ (w.heap.size + 1 + 1) _ _ _ rfl hN4 hr) rfl ⟨i, r, by rw [HG.out, HX.out.1], by rw [HX.out.2]; exact HR1.out, ?_⟩
    exact hB3.grown hg4 (by have := hB3.size; omega) (by intro k hk; cases hk; omega)
  · have hs1 := hW1.size
    have hx' : (n : Int) < (m : Int) := by simpa using hx
    have A1 : WholeAt w1 w.heap.size true k p := RowAt.below A hW1 (by omega)
    have B1 : WholeAt w1 (w.heap.size + 1) false j q := RowAt.below B hW1 (by omega)
    have C1 : WholeAt w1 (w.heap.size + 1 + 1) false 0 zP := RowAt.below C hW1 (by omega)
    have hB1 : Below w.heap.size w w1 := hB.trans (hW1.mono hB.size)
    have F1 := NatAt.new w1 0 zP
    have HX := hide hx'
    clear A B C hB hW1 hx hx'
    go_wp2_with (first | (refine store_nat rfl _ _ rfl rfl w1.heap.size 0 zP rfl rfl 0 zP F1 zP_len zP_len ?_; intro w2 hN2 hg2 hs2; have A2 : WholeAt w2 w.heap.size true k p := RowAt.grown (RowAt.old A1 (.cells (natC 0 zP) 32)) hg2 (by simp; omega); have B2 : WholeAt w2 (w.heap.size + 1) false j q := RowAt.grown (RowAt.old B1 (.cells (natC 0 zP) 32)) hg2 (by simp; omega)) | (refine load_mid_nat rfl _ rfl (w.heap.size + 1) 1 rfl j q B2.size hq ?_) | (refine load_mid_nat rfl _ rfl w.heap.size 1 rfl k p A2.size hp ?_))
    have C2 : WholeAt w2 (w.heap.size + 1 + 1) false 0 zP := RowAt.grown (RowAt.old C1 (.cells (natC 0 zP) 32)) hg2 (by simp; omega)
    have hB2 : Below w.heap.size w w2 := (hB1.alloc (by have := hB1.size; omega) _).grown hg2 (by have := hB1.size; simp; omega) (by intro k hk; cases hk; omega)
    have hs2' : w2.heap.size = w1.heap.size + 1 := by rw [hs2]; simp
    refine (minus_any 1 0 w2 HP.out.2 HP.out.1 (by omega) (by omega) (by omega) (by omega)).mono ?_
    rintro e w3 (⟨i, r, x, rfl, hR3, hx, hW3⟩ | ⟨rfl, hx, hW3⟩)
    · have hr := hR3.len
      have HR3 := hide hR3
      have hx' : (x : Int) = (m : Int) - (n : Int) := by simpa using hx
      have HY : Hid (decide (sg true n + sg false m < 0) = false ∧ (sg true n + sg false m).natAbs = x) := by
        have := HX.out
        have h1 : (sg true n + sg false m) = sg false x := by simp only [sg, if_true, Bool.false_eq_true, if_false]; omega
        rw [h1, sg_abs]
        refine ⟨?_, rfl⟩
        simp only [sg, Bool.false_eq_true, if_false]
        first | exact decide_eq_true (by omega) | exact decide_eq_false (by omega)
      have N3 : NatAt w3 w1.heap.size 0 zP := hN2.below hW3 (by omega)
      have B3 : WholeAt w3 (w.heap.size + 1) false j q := RowAt.below B2 hW3 (by omega)
      have C3 : WholeAt w3 (w.heap.size + 1 + 1) false 0 zP := RowAt.below C2 hW3 (by omega)
      have hs3 := hW3.size
      have hB3 : Below w.heap.size w w3 := hB2.trans (hW3.mono hB2.size)
      clear A1 B1 C1 F1 hN2 hg2 hs2 A2 B2 C2 hB1 hB2 hR3 hW3 hx hx'
      go_wp2_with (first | (refine store_nat rfl _ _ rfl rfl w1.heap.size i r rfl rfl 0 zP N3 zP_len hr ?_; intro w4 hN4 hg4 hs4; have B4 : WholeAt w4 (w.heap.size + 1) false j q := RowAt.grown B3 hg4 (by simp; omega); have b4 := B4.neg) | (refine load_nat rfl _ rfl w1.heap.size rfl i r hN4 hr ?_) | (refine build_whole rfl _ _ rfl _ rfl false i r hr rfl rfl ?_) | (refine store_whole rfl _ _ rfl rfl (w.heap.size + 1 + 1) false i r rfl rfl false 0 zP (RowAt.grown C3 hg4 (by simp; omega)) zP_len hr ?_; intro w5 hN5 hg5 hs5))
      refine bodyPost_ret (v := .agg (wholeC false i r)) (res_whole Tryz.results50 _ _ (w.heap.size + 1 + 1) _ _ _ rfl hN5 hr) rfl ⟨i, r, by rw [HY.out.1], by rw [HY.out.2]; exact HR3.out, ?_⟩
      exact (hB3.grown hg4 (by have := hB3.size; omega) (by intro k hk; cases hk; omega)).grown hg5 (by have := hB3.size; omega) (by intro k hk; cases hk; omega)
    · exfalso
      have := HX.out
      have hx' : (m : Int) < (n : Int) := by simpa using hx
      omega

set_option maxHeartbeats 1000000 in
set_option maxRecDepth 100000 in
theorem added_false_true {n m k j : Nat} {p q : List Int} (w : World) (hP : Rep n k p) (hQ : Rep m j q) (hk : k ≤ 201) (hj : j ≤ 201) :
    Calls Tryz.prog 50 #[.agg (wholeC false k p), .agg (wholeC true j q)] w fun e w' => ∃ (i : Nat) (r : List Int), e = .returned (.agg (wholeC (decide (sg false n + sg true m < 0)) i r)) ∧ Rep (sg false n + sg true m).natAbs i r ∧ Below w.heap.size w w' := by
  have hz := zero_nat.1
  have hz1 := zero_whole.1
  have hp := hP.len
  have hq := hQ.len
  have A : WholeAt (((w.alloc (.cells (wholeC false k p) 36)).alloc (.cells (wholeC true j q) 36)).alloc (.cells (wholeC false 0 zP) 36)) w.heap.size false k p := RowAt.old (RowAt.old (WholeAt.new w false k p) _) _
  have B : WholeAt (((w.alloc (.cells (wholeC false k p) 36)).alloc (.cells (wholeC true j q) 36)).alloc (.cells (wholeC false 0 zP) 36)) (w.heap.size + 1) true j q := by
    have := RowAt.old (WholeAt.new (w.alloc (.cells (wholeC false k p) 36)) true j q) (.cells (wholeC false 0 zP) 36)
    simp only [World.size_alloc] at this; exact this
  have C : WholeAt (((w.alloc (.cells (wholeC false k p) 36)).alloc (.cells (wholeC true j q) 36)).alloc (.cells (wholeC false 0 zP) 36)) (w.heap.size + 1 + 1) false 0 zP := by
    have := WholeAt.new ((w.alloc (.cells (wholeC false k p) 36)).alloc (.cells (wholeC true j q) 36)) false 0 zP
    simp only [World.size_alloc] at this; exact this
  have hB : Below w.heap.size w (((w.alloc (.cells (wholeC false k p) 36)).alloc (.cells (wholeC true j q) 36)).alloc (.cells (wholeC false 0 zP) 36)) := (((Below.refl _ _).alloc (Nat.le_refl _) _).alloc (by simp) _).alloc (by simp; omega) _
  obtain ⟨W, hWd⟩ : ∃ W, W = (((w.alloc (.cells (wholeC false k p) 36)).alloc (.cells (wholeC true j q) 36)).alloc (.cells (wholeC false 0 zP) 36)) := ⟨_, rfl⟩
  have hWs : W.heap.size = w.heap.size + 1 + 1 + 1 := by rw [hWd]; simp
  have HP := hide (And.intro hP hQ)
  clear hP hQ
  have a0 := A.neg
  have b0 := B.neg
  go_enter Tryz.func50, Tryz.ntmps50
  go_wp2_with (first | (refine load_mid_nat rfl _ rfl w.heap.size 1 rfl k p A.size hp ?_) | (refine load_mid_nat rfl _ rfl (w.heap.size + 1) 1 rfl j q B.size hq ?_))
  rw [← hWd] at A B C hB ⊢
  clear hWd a0 b0
  refine (minus_any 1 0 W HP.out.1 HP.out.2 (by omega) (by omega) (by omega) (by omega)).mono ?_
  rintro e w1 (⟨i, r, x, rfl, hR1, hx, hW1⟩ | ⟨rfl, hx, hW1⟩)
  · have hs1 := hW1.size
    have hr := hR1.len
    have HR1 := hide hR1
    have hx' : (x : Int) = (n : Int) - (m : Int) := by simpa using hx
    have HX : Hid ((false && decide (0 < i)) = decide (sg false n + sg true m < 0) ∧ (sg false n + sg true m).natAbs = x) := by
      have hz := hR1.zero_iff
      have h1 : (sg false n + sg true m) = sg false x := by simp only [sg, if_true, Bool.false_eq_true, if_false]; omega
      rw [h1, sg_abs]
      refine ⟨?_, rfl⟩
      by_cases e : i = 0
      · have := hz.1 e; subst this; subst e; simp [sg]
      · have e2 : x ≠ 0 := fun e' => e (hz.2 e')
        simp only [sg, Bool.false_eq_true, if_false, decide_eq_true (show 0 < i by omega)]
        first | (rw [decide_eq_true (show -(x : Int) < 0 by omega)]; rfl) | (rw [decide_eq_false (show ¬ (x : Int) < 0 by omega)]; rfl)
    have A1 : WholeAt w1 w.heap.size false k p := RowAt.below A hW1 (by omega)
    have C1 : WholeAt w1 (w.heap.size + 1 + 1) false 0 zP := RowAt.below C hW1 (by omega)
    have hB1 : Below w.heap.size w w1 := hB.trans (hW1.mono hB.size)
    have F1 := NatAt.new w1 0 zP
    clear A B C hB hR1 hW1 hx hx'
    go_wp2_with (first | (refine store_nat rfl _ _ rfl rfl w1.heap.size i r rfl rfl 0 zP F1 zP_len hr ?_; intro w2 hN2 hg2 hs2; have A2 : WholeAt w2 w.heap.size false k p := RowAt.grown (RowAt.old A1 (.cells (natC 0 zP) 32)) hg2 (by simp; omega); have a2 := A2.neg) | (refine load_nat rfl _ rfl w1.heap.size rfl i r hN2 hr ?_))
    have C2 : WholeAt w2 (w.heap.size + 1 + 1) false 0 zP := RowAt.grown (RowAt.old C1 (.cells (natC 0 zP) 32)) hg2 (by simp; omega)
    have hB2 : Below w.heap.size w w2 := (hB1.alloc (by have := hB1.size; omega) _).grown hg2 (by have := hB1.size; simp; omega) (by intro k hk; cases hk; omega)
    have hs2' : w2.heap.size = w1.heap.size + 1 := by rw [hs2]; simp
    refine (wholeOf_any false i r w2 hr).mono ?_
    rintro e w3 ⟨rfl, hW3⟩
    have C3 : WholeAt w3 (w.heap.size + 1 + 1) false 0 zP := RowAt.below C2 hW3 (by omega)
    have hB3 : Below w.heap.size w w3 := hB2.trans (hW3.mono hB2.size)
    obtain ⟨G, hG⟩ : ∃ G, G = (false && decide (0 < i)) := ⟨_, rfl⟩
    rw [← hG]
    have HG := hide hG
    clear hG A1 C1 F1 hN2 hg2 hs2 A2 a2 C2 hB1 hB2 hW3
    go_wp2_with (refine store_whole rfl _ _ rfl rfl (w.heap.size + 1 + 1) G i r rfl rfl false 0 zP C3 zP_len hr ?_; intro w4 hN4 hg4 hs4)
    refine bodyPost_ret (v := .agg (wholeC G i r)) (res_whole Tryz.results50 _ _ (w.heap.size + 1 + 1) _ _ _ rfl hN4 hr) rfl ⟨i, r, by rw [HG.out, HX.out.1], by rw [HX.out.2]; exact HR1.out, ?_⟩
    exact hB3.grown hg4 (by have := hB3.size; omega) (by intro k hk; cases hk; omega)
  · have hs1 := hW1.size
    have hx' : (n : Int) < (m : Int) := by simpa using hx
    have A1 : WholeAt w1 w.heap.size false k p := RowAt.below A hW1 (by omega)
    have B1 : WholeAt w1 (w.heap.size + 1) true j q := RowAt.below B hW1 (by omega)
    have C1 : WholeAt w1 (w.heap.size + 1 + 1) false 0 zP := RowAt.below C hW1 (by omega)
    have hB1 : Below w.heap.size w w1 := hB.trans (hW1.mono hB.size)
    have F1 := NatAt.new w1 0 zP
    have HX := hide hx'
    clear A B C hB hW1 hx hx'
    go_wp2_with (first | (refine store_nat rfl _ _ rfl rfl w1.heap.size 0 zP rfl rfl 0 zP F1 zP_len zP_len ?_; intro w2 hN2 hg2 hs2; have A2 : WholeAt w2 w.heap.size false k p := RowAt.grown (RowAt.old A1 (.cells (natC 0 zP) 32)) hg2 (by simp; omega); have B2 : WholeAt w2 (w.heap.size + 1) true j q := RowAt.grown (RowAt.old B1 (.cells (natC 0 zP) 32)) hg2 (by simp; omega)) | (refine load_mid_nat rfl _ rfl (w.heap.size + 1) 1 rfl j q B2.size hq ?_) | (refine load_mid_nat rfl _ rfl w.heap.size 1 rfl k p A2.size hp ?_))
    have C2 : WholeAt w2 (w.heap.size + 1 + 1) false 0 zP := RowAt.grown (RowAt.old C1 (.cells (natC 0 zP) 32)) hg2 (by simp; omega)
    have hB2 : Below w.heap.size w w2 := (hB1.alloc (by have := hB1.size; omega) _).grown hg2 (by have := hB1.size; simp; omega) (by intro k hk; cases hk; omega)
    have hs2' : w2.heap.size = w1.heap.size + 1 := by rw [hs2]; simp
    refine (minus_any 1 0 w2 HP.out.2 HP.out.1 (by omega) (by omega) (by omega) (by omega)).mono ?_
    rintro e w3 (⟨i, r, x, rfl, hR3, hx, hW3⟩ | ⟨rfl, hx, hW3⟩)
    · have hr := hR3.len
      have HR3 := hide hR3
      have hx' : (x : Int) = (m : Int) - (n : Int) := by simpa using hx
      have HY : Hid (decide (sg false n + sg true m < 0) = true ∧ (sg false n + sg true m).natAbs = x) := by
        have := HX.out
        have h1 : (sg false n + sg true m) = sg true x := by simp only [sg, if_true, Bool.false_eq_true, if_false]; omega
        rw [h1, sg_abs]
        refine ⟨?_, rfl⟩
        simp only [sg, if_true]
        first | exact decide_eq_true (by omega) | exact decide_eq_false (by omega)
      have N3 : NatAt w3 w1.heap.size 0 zP := hN2.below hW3 (by omega)
      have B3 : WholeAt w3 (w.heap.size + 1) true j q := RowAt.below B2 hW3 (by omega)
      have C3 : WholeAt w3 (w.heap.size + 1 + 1) false 0 zP := RowAt.below C2 hW3 (by omega)
      have hs3 := hW3.size
      have hB3 : Below w.heap.size w w3 := hB2.trans (hW3.mono hB2.size)
      clear A1 B1 C1 F1 hN2 hg2 hs2 A2 B2 C2 hB1 hB2 hR3 hW3 hx hx'
      go_wp2_with (first | (refine store_nat rfl _ _ rfl rfl w1.heap.size i r rfl rfl 0 zP N3 zP_len hr ?_; intro w4 hN4 hg4 hs4; have B4 : WholeAt w4 (w.heap.size + 1) true j q := RowAt.grown B3 hg4 (by simp; omega); have b4 := B4.neg) | (refine load_nat rfl _ rfl w1.heap.size rfl i r hN4 hr ?_) | (refine build_whole rfl _ _ rfl _ rfl true i r hr rfl rfl ?_) | (refine store_whole rfl _ _ rfl rfl (w.heap.size + 1 + 1) true i r rfl rfl false 0 zP (RowAt.grown C3 hg4 (by simp; omega)) zP_len hr ?_; intro w5 hN5 hg5 hs5))
      refine bodyPost_ret (v := .agg (wholeC true i r)) (res_whole Tryz.results50 _ _ (w.heap.size + 1 + 1) _ _ _ rfl hN5 hr) rfl ⟨i, r, by rw [HY.out.1], by rw [HY.out.2]; exact HR3.out, ?_⟩
      exact (hB3.grown hg4 (by have := hB3.size; omega) (by intro k hk; cases hk; omega)).grown hg5 (by have := hB3.size; omega) (by intro k hk; cases hk; omega)
    · exfalso
      have := HX.out
      have hx' : (m : Int) < (n : Int) := by simpa using hx
      omega

theorem added_any {n m k j : Nat} {p q : List Int} (g g' : Bool) (w : World) (hP : Rep n k p) (hQ : Rep m j q) (hk : k ≤ 201) (hj : j ≤ 201) (h0 : g = true → n ≠ 0) :
    Calls Tryz.prog 50 #[.agg (wholeC g k p), .agg (wholeC g' j q)] w fun e w' => ∃ (i : Nat) (r : List Int), e = .returned (.agg (wholeC (decide (sg g n + sg g' m < 0)) i r)) ∧ Rep (sg g n + sg g' m).natAbs i r ∧ Below w.heap.size w w' := by
  cases g <;> cases g'
  · exact added_false_false w hP hQ hk hj
  · exact added_false_true w hP hQ hk hj
  · exact added_true_false w hP hQ hk hj
  · exact added_true_true w hP hQ hk hj (h0 rfl)
end Go.Proofs.YtmfpnbmfcoahbaaGreatDoor
