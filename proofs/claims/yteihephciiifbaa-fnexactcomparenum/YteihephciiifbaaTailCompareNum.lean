/-
  The texts Small, Added, SumTop, ImplCmpNum, one behind the other, as one.
-/
import Derived.Test.YteihephciiifbaaNumTimes
import Derived.Test.YteihephciiifbaaIsOne
import Derived.Test.YteihephciiifbaaFlt
import Derived.WalkLawsBesides
import Derived.Test.YteihephciiifbaaAddZ
import Derived.Test.YteihephciiifbaaSpecCmpNum

/-
  Small fractions of impl: isSmall, asComplex, smallWhole; the top of a sum by complex numbers.
-/
namespace Go.Proofs.Yteihephciiifbaa
open Go.RowKit
set_option linter.unusedVariables false

theorem NumAt.part0 {w : World} {b : Nat} {g : Bool} {u : Int} {p : List Int} {v : Int} {q : List Int} (h : NumAt w b g u p v q) (hp : p.length = 204) : w.cell? ⟨b, 2, none⟩ = some (.int .i64 (p.getD 0 0)) := by
  rw [cell_of_row w b 2 _ _ _ h]
  cases p with
  | nil => simp at hp
  | cons x p => simp [numC, natL]
theorem NumAt.bpart0 {w : World} {b : Nat} {g : Bool} {u : Int} {p : List Int} {v : Int} {q : List Int} (h : NumAt w b g u p v q) (hp : p.length = 204) (hq : q.length = 204) : w.cell? ⟨b, 207, none⟩ = some (.int .i64 (q.getD 0 0)) := by
  rw [cell_of_row w b 207 _ _ _ h, num_split2]
  simp only [List.getElem?_toArray, List.append_assoc]
  rw [List.getElem?_append_right (by simp [natL_len, hp])]
  cases q with
  | nil => simp at hq
  | cons x q => simp [hp, natL]

theorem Rep.little {n k : Nat} {p : List Int} (h : Rep n k p) (hk : k ≤ 1) : p.getD 0 0 = (n : Int) ∧ n < 1000000 := by
  have hp := h.len
  have hv := h.val
  rw [vb_split 1000000 p 1 (by omega), vb_zero _ (p.drop 1) (fun i => by rw [getD_drop]; exact h.out _ (by omega))] at hv
  have ht : p.take 1 = [p.getD 0 0] := by
    cases p with
    | nil => simp at hp
    | cons x p => simp
  rw [ht] at hv
  simp only [vb, Int.mul_zero, Int.add_zero] at hv
  have := h.hi 0
  omega

set_option maxHeartbeats 400000 in
theorem isSmall_any {k j : Nat} {p q : List Int} (g : Bool) (w : World) (hp : p.length = 204) :
    Calls Try.prog 43 #[.agg (numC g k p j q)] w fun e w' => e = .returned (.bool (decide (k ≤ 1) && decide (j ≤ 1))) ∧ Below w.heap.size w w' := by
  have A := NumAt.new w g k p j q
  have hB : Below w.heap.size w (w.alloc (.cells (numC g k p j q) 34)) := (Below.refl _ _).alloc (Nat.le_refl _) _
  have c1 := A.used
  have c2 := A.bused hp
  by_cases hk : (k : Int) ≤ 1
  · by_cases hj : (j : Int) ≤ 1
    · rw [decide_eq_true (show k ≤ 1 by omega), decide_eq_true (show j ≤ 1 by omega)]
      go_enter Try.func43, Try.ntmps43
      go_wp2
      go_ret
      exact ⟨rfl, hB⟩
    · rw [decide_eq_true (show k ≤ 1 by omega), decide_eq_false (show ¬ j ≤ 1 by omega)]
      go_enter Try.func43, Try.ntmps43
      go_wp2
      go_ret
      exact ⟨rfl, hB⟩
  · rw [decide_eq_false (show ¬ k ≤ 1 by omega)]
    go_enter Try.func43, Try.ntmps43
    go_wp2
    go_ret
    exact ⟨rfl, hB⟩

set_option maxHeartbeats 400000 in
theorem asComplex_any {n m k j : Nat} {p q : List Int} (g : Bool) (w : World) (hP : Rep n k p) (hQ : Rep m j q) (hk : k ≤ 1) (hj : j ≤ 1) :
    Calls Try.prog 45 #[.agg (numC g k p j q)] w fun e w' => ∃ x y : Nat, e = .returned (.complex .f64 x y) ∧ F64 x (m : Int) ∧ F64 y (sg g n) ∧ Below w.heap.size w w' := by
  have A := NumAt.new w g k p j q
  have hB : Below w.heap.size w (w.alloc (.cells (numC g k p j q) 34)) := (Below.refl _ _).alloc (Nat.le_refl _) _
  have c0 := A.neg
  have c1 := A.part0 hP.len
  have c2 := A.bpart0 hP.len hQ.len
  obtain ⟨e1, h1⟩ := hP.little hk
  obtain ⟨e2, h2⟩ := hQ.little hj
  rw [e1] at c1
  rw [e2] at c2
  have HF := hide (And.intro (F64.ofNat n (by omega)) (F64.ofNat m (by omega)))
  clear e1 e2 h1 h2 hP hQ
  have hneg : ∀ (x : Nat) (w : World), Sem.run Try.prog (Op.unary UnOp.neg (Value.float FloatKind.f64 x)) w = Result.ok (.float .f64 (Op.negFloat .f64 x)) w := fun _ _ => rfl
  cases g with
  | true =>
    go_enter Try.func45, Try.ntmps45
    go_wp2
    go_ret
    exact ⟨_, _, rfl, HF.out.2.1, HF.out.1.2, hB⟩
  | false =>
    go_enter Try.func45, Try.ntmps45
    go_wp2
    go_ret
    exact ⟨_, _, rfl, HF.out.2.1, HF.out.1.1, hB⟩

set_option maxHeartbeats 1000000 in
set_option maxRecDepth 100000 in
theorem smallWhole_any (z : Int) (w : World) (h1 : -400000000000000 ≤ z) (h2 : z ≤ 400000000000000) :
    Calls Try.prog 44 #[.int .i64 z] w fun e w' => ∃ (i : Nat) (r : List Int), e = .returned (.agg (wholeC (decide (z < 0)) i r)) ∧ Rep z.natAbs i r ∧ Below w.heap.size w w' := by
  have hz1 := zero_whole.1
  have C := WholeAt.new w false 0 zP
  have hB : Below w.heap.size w (w.alloc (.cells (wholeC false 0 zP) 32)) := (Below.refl _ _).alloc (Nat.le_refl _) _
  by_cases hz : z < 0
  · rw [decide_eq_true hz]
    go_enter Try.func44, Try.ntmps44
    go_wp2_with fail
    refine (natOf_any z.natAbs (-z) _ (by omega) (by omega) (by omega)).mono ?_
    rintro e w1 ⟨i, r, rfl, hR, hW1⟩
    have hr := hR.len
    have HR := hide hR
    have C1 : WholeAt w1 w.heap.size false 0 zP := RowAt.below C hW1 (by simp)
    have hB1 : Below w.heap.size w w1 := hB.trans (hW1.mono (by simp))
    clear hR C hB hW1
    go_wp2_with (first | (refine build_whole rfl _ _ rfl _ rfl true i r hr rfl rfl ?_) | (refine store_whole rfl _ _ rfl rfl w.heap.size true i r rfl rfl false 0 zP C1 zP_len hr ?_; intro w2 hN2 hg2 hs2))
    refine bodyPost_ret (v := .agg (wholeC true i r)) (res_whole Try.results44 _ _ w.heap.size _ _ _ rfl hN2 hr) rfl ⟨i, r, rfl, HR.out, ?_⟩
    exact hB1.grown hg2 (by have := hB1.size; omega) (by intro k hk; cases hk; omega)
  · rw [decide_eq_false hz]
    go_enter Try.func44, Try.ntmps44
    go_wp2_with fail
    refine (natOf_any z.natAbs z _ (by omega) (by omega) (by omega)).mono ?_
    rintro e w1 ⟨i, r, rfl, hR, hW1⟩
    have hr := hR.len
    have HR := hide hR
    have C1 : WholeAt w1 w.heap.size false 0 zP := RowAt.below C hW1 (by simp)
    have hB1 : Below w.heap.size w w1 := hB.trans (hW1.mono (by simp))
    clear hR C hB hW1
    go_wp2_with (first | (refine build_whole rfl _ _ rfl _ rfl false i r hr rfl rfl ?_) | (refine store_whole rfl _ _ rfl rfl w.heap.size false i r rfl rfl false 0 zP C1 zP_len hr ?_; intro w2 hN2 hg2 hs2))
    refine bodyPost_ret (v := .agg (wholeC false i r)) (res_whole Try.results44 _ _ w.heap.size _ _ _ rfl hN2 hr) rfl ⟨i, r, rfl, HR.out, ?_⟩
    exact hB1.grown hg2 (by have := hB1.size; omega) (by intro k hk; cases hk; omega)
end Go.Proofs.Yteihephciiifbaa

/-
  What scaled and added of impl's whole numbers, and negated of its fractions, answer.
-/
namespace Go.Proofs.Yteihephciiifbaa
open Go.RowKit
set_option linter.unusedVariables false

/-- The one operation that may come up: a whole number is written whole. -/
theorem held_store_whole {ops : Array Oper} {Q : Exit → Act → World → Prop} {md : Region.Mode} {S : World → Prop} {o : Oper} {fuel : Nat} {listed : Array Bool} {a : Act} {w : World} (i : Nat) (hr : Region.ready md ops listed = [i]) (hi : ops[i]? = some o) (hw : Region.wanted o (yielded ops a.tmps) = true) (x y : Operand) (ho : o.op = .store 32 x y) (hd : o.dst = none)
    (b : Nat) (g : Bool) (u : Int) (p : List Int) (hx : a.eval x = .pointer (some ⟨b, 0, none⟩)) (hy : a.eval y = .agg (wholeC g u p)) (g0 : Bool) (u0 : Int) (p0 : List Int) (hN : WholeAt w b g0 u0 p0) (h0 : p0.length = 204) (hl : p.length = 204)
    (h : ∀ w', WholeAt w' b g u p → w.grownBy w' (some b) → w'.heap.size = w.heap.size → S w' ∧ wpAnyH Try.prog md ops Q S fuel (listed.setIfInBounds i true) a w') : wpAnyH Try.prog md ops Q S (fuel + 1) listed a w := by
  refine wpAnyH_ready hr (by simp) (AllReadyH.cons hi (fun K hK => ?_) AllReadyH.nil)
  rw [if_pos hw]
  refine wp_store_row 32 x y ho b (wholeC g u p) hx hy 32 (wholeC g0 u0 p0) hN (whole_info g u p hl) (by rw [wholeC_size, wholeC_size, h0, hl]) (wholeC_one _ _ _) ?_
  rw [hd]
  have := h _ (setRow_heap w b _ _ _ _ hN) ⟨rfl, rfl, rfl, by simp, fun k _ hne => setRow_other w b k _ (by intro e; exact hne (by rw [e]))⟩ (by simp)
  exact hK.out _ _ this.1 (fun _ => this.2)

theorem run_row_nat' {o : Oper} {a : Act} {w : World} (x : Operand) (ho : o.op = .load 30 x) (b : Nat) (hx : a.eval x = .pointer (some ⟨b, 0, none⟩)) (u : Int) (p : List Int) (hN : NatAt w b u p) (hl : p.length = 204) : (execOp a.eval o).run Try.prog w = .ok (.value (.agg (natC u p))) w := by
  unfold execOp
  simp only [ho, hx, Instr.loadAt, Instr.sureAddr, Sem.run_bind, Sem.run_pure, Result.andThen_ok, run_loadVar_row w b 30 30 (natC u p) (0, 0) _ hN Try.underlying30 rfl (nat_info u p hl)]

set_option maxHeartbeats 1000000 in
set_option maxRecDepth 100000 in
theorem scaled_any {n m k j : Nat} {p q : List Int} (g : Bool) (w : World) (hP : Rep n k p) (hQ : Rep m j q) (hk : k ≤ 100) (hj : j ≤ 100) :
    Calls Try.prog 46 #[.agg (wholeC g k p), .agg (natC j q)] w fun e w' => ∃ (i : Nat) (r : List Int), e = .returned (.agg (wholeC g i r)) ∧ Rep (n * m) i r ∧ Below w.heap.size w w' := by
  have hz := zero_nat.1
  have hz1 := zero_whole.1
  have hp := hP.len
  have hq := hQ.len
  have A : WholeAt (((w.alloc (.cells (wholeC g k p) 32)).alloc (.cells (natC j q) 30)).alloc (.cells (wholeC false 0 zP) 32)) w.heap.size g k p := RowAt.old (RowAt.old (WholeAt.new w g k p) _) _
  have B : NatAt (((w.alloc (.cells (wholeC g k p) 32)).alloc (.cells (natC j q) 30)).alloc (.cells (wholeC false 0 zP) 32)) (w.heap.size + 1) j q := by
    have := (NatAt.new (w.alloc (.cells (wholeC g k p) 32)) j q).old (.cells (wholeC false 0 zP) 32)
    simp only [World.size_alloc] at this; exact this
  have C : WholeAt (((w.alloc (.cells (wholeC g k p) 32)).alloc (.cells (natC j q) 30)).alloc (.cells (wholeC false 0 zP) 32)) (w.heap.size + 1 + 1) false 0 zP := by
    have := WholeAt.new ((w.alloc (.cells (wholeC g k p) 32)).alloc (.cells (natC j q) 30)) false 0 zP
    simp only [World.size_alloc] at this; exact this
  have hB : Below w.heap.size w (((w.alloc (.cells (wholeC g k p) 32)).alloc (.cells (natC j q) 30)).alloc (.cells (wholeC false 0 zP) 32)) := (((Below.refl _ _).alloc (Nat.le_refl _) _).alloc (by simp) _).alloc (by simp; omega) _
  obtain ⟨W, hWd⟩ : ∃ W, W = (((w.alloc (.cells (wholeC g k p) 32)).alloc (.cells (natC j q) 30)).alloc (.cells (wholeC false 0 zP) 32)) := ⟨_, rfl⟩
  have hWs : W.heap.size = w.heap.size + 1 + 1 + 1 := by rw [hWd]; simp
  have HP := hide (And.intro hP hQ)
  clear hP hQ
  go_enter Try.func46, Try.ntmps46
  go_wp2_with fail
  rw [← hWd] at A B C hB ⊢
  clear hWd
  refine held_begin (fun w' => WholeAt w' w.heap.size g k p ∧ NatAt w' (w.heap.size + 1) j q) (by kernel_rfl) ?_
  have hS : WholeAt W.drew w.heap.size g k p ∧ NatAt W.drew (w.heap.size + 1) j q := ⟨A, B⟩
  refine held_valS 0 (some 5) rfl rfl (by kernel_rfl) (by kernel_rfl) (by kernel_rfl) noPanic_put rfl (.pointer (some ⟨w.heap.size, 0, none⟩)) (fun _ _ => by go_simp) hS ?_
  simp only [Act.put, List.setIfInBounds_toArray, List.set_cons_zero, List.set_cons_succ]
  refine held_valS 1 (some 6) rfl rfl (by kernel_rfl) (by kernel_rfl) (by kernel_rfl) noPanic_put rfl (.bool g) (fun _ h => by have c := h.1.neg; go_simp) hS ?_
  simp only [Act.put, List.setIfInBounds_toArray, List.set_cons_zero, List.set_cons_succ]
  refine held_valS 2 (some 7) rfl rfl (by kernel_rfl) (by kernel_rfl) (by kernel_rfl) noPanic_put rfl (.pointer (some ⟨w.heap.size, 1, none⟩)) (fun _ _ => by go_simp) hS ?_
  simp only [Act.put, List.setIfInBounds_toArray, List.set_cons_zero, List.set_cons_succ]
  refine held_valS 3 (some 8) rfl rfl (by kernel_rfl) (by kernel_rfl) (by kernel_rfl) noPanic_put rfl (.agg (natC k p)) (fun _ h => run_mid_nat _ rfl w.heap.size 1 rfl k p h.1.size hp) hS ?_
  simp only [Act.put, List.setIfInBounds_toArray, List.set_cons_zero, List.set_cons_succ]
  refine held_valS 4 (some 9) rfl rfl (by kernel_rfl) (by kernel_rfl) (by kernel_rfl) noPanic_put rfl (.agg (natC j q)) (fun _ h => run_row_nat' _ rfl (w.heap.size + 1) rfl j q h.2 hq) hS ?_
  simp only [Act.put, List.setIfInBounds_toArray, List.set_cons_zero, List.set_cons_succ]
  refine held_call 5 (some 10) (by kernel_rfl) rfl rfl rfl 56 #[.agg (natC k p), .agg (natC j q)] (by go_simp) _ (times_any W.drew HP.out.1 HP.out.2 hk hj) ?_
  rintro e w1 ⟨i, r, rfl, hR1, hW1⟩
  have hW1 : Below W.heap.size W w1 := ⟨hW1.os, hW1.tape, hW1.output, hW1.size, hW1.block⟩
  have hs1 := hW1.size
  have hr := hR1.len
  have HR1 := hide hR1
  have S1 : WholeAt w1 w.heap.size g k p ∧ NatAt w1 (w.heap.size + 1) j q := ⟨RowAt.below A hW1 (by omega), B.below hW1 (by omega)⟩
  have C1 : WholeAt w1 (w.heap.size + 1 + 1) false 0 zP := RowAt.below C hW1 (by omega)
  have hB1 : Below w.heap.size w w1 := hB.trans (hW1.mono hB.size)
  clear A B C hB hS hR1 hW1
  refine ⟨_, rfl, S1, ?_⟩
  simp only [Act.put, List.setIfInBounds_toArray, List.set_cons_zero, List.set_cons_succ]
  refine held_valS 6 (some 11) rfl rfl (by kernel_rfl) (by kernel_rfl) (by kernel_rfl) noPanic_put rfl (.agg (wholeC g i r)) (fun _ _ => run_bw _ _ rfl g i r hr rfl rfl) S1 ?_
  simp only [Act.put, List.setIfInBounds_toArray, List.set_cons_zero, List.set_cons_succ]
  refine held_store_whole 7 (by kernel_rfl) rfl rfl _ _ rfl rfl (w.heap.size + 1 + 1) g i r rfl rfl false 0 zP C1 zP_len hr ?_
  intro w2 hN2 hg2 hs2
  refine ⟨⟨RowAt.grown S1.1 hg2 (by simp; omega), S1.2.grown hg2 (by simp)⟩, ?_⟩
  refine wpAnyH_done (by kernel_rfl) ?_ _
  refine NoPanic.normal ?_
  go_wp2
  refine bodyPost_ret (v := .agg (wholeC g i r)) (res_whole Try.results46 _ _ (w.heap.size + 1 + 1) _ _ _ rfl hN2 hr) rfl ⟨i, r, rfl, HR1.out, ?_⟩
  exact hB1.grown hg2 (by have := hB1.size; omega) (by intro k hk; cases hk; omega)

set_option maxHeartbeats 1000000 in
set_option maxRecDepth 100000 in
theorem negated_any {k j : Nat} {p q : List Int} (g : Bool) (w : World) (hp : p.length = 204) (hq : q.length = 204) :
    Calls Try.prog 26 #[.agg (numC g k p j q)] w fun e w' => e = .returned (.agg (numC (!g && decide (0 < k)) k p j q)) ∧ Below w.heap.size w w' := by
  have hz1 := zero_whole.1
  have hz2 := zero_num.1
  have A : NumAt ((w.alloc (.cells (numC g k p j q) 34)).alloc (.cells (numC false 0 zP 0 zP) 34)) w.heap.size g k p j q := RowAt.old (NumAt.new w g k p j q) _
  have C : NumAt ((w.alloc (.cells (numC g k p j q) 34)).alloc (.cells (numC false 0 zP 0 zP) 34)) (w.heap.size + 1) false 0 zP 0 zP := by
    have := NumAt.new (w.alloc (.cells (numC g k p j q) 34)) false 0 zP 0 zP
    simp only [World.size_alloc] at this; exact this
  have hB : Below w.heap.size w ((w.alloc (.cells (numC g k p j q) 34)).alloc (.cells (numC false 0 zP 0 zP) 34)) := ((Below.refl _ _).alloc (Nat.le_refl _) _).alloc (by simp) _
  obtain ⟨W, hWd⟩ : ∃ W, W = ((w.alloc (.cells (numC g k p j q) 34)).alloc (.cells (numC false 0 zP 0 zP) 34)) := ⟨_, rfl⟩
  have hWs : W.heap.size = w.heap.size + 1 + 1 := by rw [hWd]; simp
  go_enter Try.func26, Try.ntmps26
  go_wp2_with fail
  rw [← hWd] at A C hB ⊢
  clear hWd
  refine held_begin (fun w' => NumAt w' w.heap.size g k p j q) (by kernel_rfl) ?_
  have hS : NumAt W.drew w.heap.size g k p j q := A
  refine held_valS 0 (some 3) rfl rfl (by kernel_rfl) (by kernel_rfl) (by kernel_rfl) noPanic_put rfl (.pointer (some ⟨w.heap.size, 0, none⟩)) (fun _ _ => by go_simp) hS ?_
  simp only [Act.put, List.setIfInBounds_toArray, List.set_cons_zero, List.set_cons_succ]
  refine held_valS 1 (some 4) rfl rfl (by kernel_rfl) (by kernel_rfl) (by kernel_rfl) noPanic_put rfl (.pointer (some ⟨w.heap.size, 0, none⟩)) (fun _ _ => by go_simp) hS ?_
  simp only [Act.put, List.setIfInBounds_toArray, List.set_cons_zero, List.set_cons_succ]
  refine held_valS 2 (some 5) rfl rfl (by kernel_rfl) (by kernel_rfl) (by kernel_rfl) noPanic_put rfl (.bool g) (fun _ h => by have c := h.neg; go_simp) hS ?_
  simp only [Act.put, List.setIfInBounds_toArray, List.set_cons_zero, List.set_cons_succ]
  refine held_valS 3 (some 6) rfl rfl (by kernel_rfl) (by kernel_rfl) (by kernel_rfl) noPanic_put rfl (.bool (!g)) (fun _ _ => by go_simp) hS ?_
  simp only [Act.put, List.setIfInBounds_toArray, List.set_cons_zero, List.set_cons_succ]
  refine held_valS 4 (some 7) rfl rfl (by kernel_rfl) (by kernel_rfl) (by kernel_rfl) noPanic_put rfl (.pointer (some ⟨w.heap.size, 0, none⟩)) (fun _ _ => by go_simp) hS ?_
  simp only [Act.put, List.setIfInBounds_toArray, List.set_cons_zero, List.set_cons_succ]
  refine held_valS 5 (some 8) rfl rfl (by kernel_rfl) (by kernel_rfl) (by kernel_rfl) noPanic_put rfl (.pointer (some ⟨w.heap.size, 1, none⟩)) (fun _ _ => by go_simp) hS ?_
  simp only [Act.put, List.setIfInBounds_toArray, List.set_cons_zero, List.set_cons_succ]
  refine held_valS 6 (some 9) rfl rfl (by kernel_rfl) (by kernel_rfl) (by kernel_rfl) noPanic_put rfl (.agg (natC k p)) (fun _ h => run_mid_nat _ rfl w.heap.size 1 rfl k p h.size hp) hS ?_
  simp only [Act.put, List.setIfInBounds_toArray, List.set_cons_zero, List.set_cons_succ]
  refine held_valS 8 (some 11) rfl rfl (by kernel_rfl) (by kernel_rfl) (by kernel_rfl) noPanic_put rfl (.pointer (some ⟨w.heap.size, 206, none⟩)) (fun _ _ => by go_simp) hS ?_
  simp only [Act.put, List.setIfInBounds_toArray, List.set_cons_zero, List.set_cons_succ]
  refine held_valS 9 (some 12) rfl rfl (by kernel_rfl) (by kernel_rfl) (by kernel_rfl) noPanic_put rfl (.agg (natC j q)) (fun _ h => run_mid_nat _ rfl w.heap.size 206 rfl j q (h.bottom hp) hq) hS ?_
  simp only [Act.put, List.setIfInBounds_toArray, List.set_cons_zero, List.set_cons_succ]
  refine held_call 7 (some 10) (by kernel_rfl) rfl rfl rfl 48 #[.bool (!g), .agg (natC k p)] (by go_simp) _ (wholeOf_any (!g) k p W.drew hp) ?_
  rintro e w1 ⟨rfl, hW1⟩
  have hW1 : Below W.heap.size W w1 := ⟨hW1.os, hW1.tape, hW1.output, hW1.size, hW1.block⟩
  have hs1 := hW1.size
  have S1 : NumAt w1 w.heap.size g k p j q := RowAt.below A hW1 (by omega)
  have C1 : NumAt w1 (w.heap.size + 1) false 0 zP 0 zP := RowAt.below C hW1 (by omega)
  have hB1 : Below w.heap.size w w1 := hB.trans (hW1.mono hB.size)
  obtain ⟨G, hG⟩ : ∃ G, G = (!g && decide (0 < k)) := ⟨_, rfl⟩
  rw [← hG]
  have HG := hide hG
  clear A C hB hS hW1 hG
  refine ⟨_, rfl, S1, ?_⟩
  simp only [Act.put, List.setIfInBounds_toArray, List.set_cons_zero, List.set_cons_succ]
  refine held_valS 10 (some 13) rfl rfl (by kernel_rfl) (by kernel_rfl) (by kernel_rfl) noPanic_put rfl (.agg (numC G k p j q)) (fun _ _ => run_bn _ _ rfl G k p j q hp hq rfl rfl) S1 ?_
  simp only [Act.put, List.setIfInBounds_toArray, List.set_cons_zero, List.set_cons_succ]
  refine held_store_num 11 (by kernel_rfl) rfl rfl _ _ rfl rfl (w.heap.size + 1) G k p j q rfl rfl false 0 zP 0 zP C1 zP_len zP_len hp hq ?_
  intro w2 hN2 hg2 hs2
  refine ⟨RowAt.grown S1 hg2 (by simp), ?_⟩
  refine wpAnyH_done (by kernel_rfl) ?_ _
  refine NoPanic.normal ?_
  go_wp2
  refine bodyPost_ret (v := .agg (numC G k p j q)) (res_num Try.results26 _ _ (w.heap.size + 1) _ _ _ _ _ rfl hN2 hp hq) rfl ⟨by rw [HG.out], ?_⟩
  exact hB1.grown hg2 (by have := hB1.size; omega) (by intro k hk; cases hk; omega)

set_option maxHeartbeats 1000000 in
set_option maxRecDepth 100000 in
theorem added_true_true {n m k j : Nat} {p q : List Int} (w : World) (hP : Rep n k p) (hQ : Rep m j q) (hk : k ≤ 201) (hj : j ≤ 201) (h0 : n ≠ 0) :
    Calls Try.prog 47 #[.agg (wholeC true k p), .agg (wholeC true j q)] w fun e w' => ∃ (i : Nat) (r : List Int), e = .returned (.agg (wholeC (decide (sg true n + sg true m < 0)) i r)) ∧ Rep (sg true n + sg true m).natAbs i r ∧ Below w.heap.size w w' := by
  have hz := zero_nat.1
  have hz1 := zero_whole.1
  have hp := hP.len
  have hq := hQ.len
  have A : WholeAt (((w.alloc (.cells (wholeC true k p) 32)).alloc (.cells (wholeC true j q) 32)).alloc (.cells (wholeC false 0 zP) 32)) w.heap.size true k p := RowAt.old (RowAt.old (WholeAt.new w true k p) _) _
  have B : WholeAt (((w.alloc (.cells (wholeC true k p) 32)).alloc (.cells (wholeC true j q) 32)).alloc (.cells (wholeC false 0 zP) 32)) (w.heap.size + 1) true j q := by
    have := RowAt.old (WholeAt.new (w.alloc (.cells (wholeC true k p) 32)) true j q) (.cells (wholeC false 0 zP) 32)
    simp only [World.size_alloc] at this; exact this
  have C : WholeAt (((w.alloc (.cells (wholeC true k p) 32)).alloc (.cells (wholeC true j q) 32)).alloc (.cells (wholeC false 0 zP) 32)) (w.heap.size + 1 + 1) false 0 zP := by
    have := WholeAt.new ((w.alloc (.cells (wholeC true k p) 32)).alloc (.cells (wholeC true j q) 32)) false 0 zP
    simp only [World.size_alloc] at this; exact this
  have hB : Below w.heap.size w (((w.alloc (.cells (wholeC true k p) 32)).alloc (.cells (wholeC true j q) 32)).alloc (.cells (wholeC false 0 zP) 32)) := (((Below.refl _ _).alloc (Nat.le_refl _) _).alloc (by simp) _).alloc (by simp; omega) _
  obtain ⟨W, hWd⟩ : ∃ W, W = (((w.alloc (.cells (wholeC true k p) 32)).alloc (.cells (wholeC true j q) 32)).alloc (.cells (wholeC false 0 zP) 32)) := ⟨_, rfl⟩
  have hWs : W.heap.size = w.heap.size + 1 + 1 + 1 := by rw [hWd]; simp
  have HP := hide (And.intro hP hQ)
  clear hP hQ
  have a0 := A.neg
  have b0 := B.neg
  have HS : Hid (decide (sg true n + sg true m < 0) = true ∧ (sg true n + sg true m).natAbs = n + m) := ⟨decide_eq_true (by simp [sg]; omega), by simp [sg]; omega⟩
  clear h0
  go_enter Try.func47, Try.ntmps47
  go_wp2_with fail
  rw [← hWd] at A B C hB ⊢
  clear hWd a0 b0
  refine held_begin (fun w' => WholeAt w' w.heap.size true k p ∧ WholeAt w' (w.heap.size + 1) true j q) (by kernel_rfl) ?_
  have hS : WholeAt W.drew w.heap.size true k p ∧ WholeAt W.drew (w.heap.size + 1) true j q := ⟨A, B⟩
  refine held_valS 0 (some 12) rfl rfl (by kernel_rfl) (by kernel_rfl) (by kernel_rfl) noPanic_put rfl (.pointer (some ⟨w.heap.size, 0, none⟩)) (fun _ _ => by go_simp) hS ?_
  simp only [Act.put, List.setIfInBounds_toArray, List.set_cons_zero, List.set_cons_succ]
  refine held_valS 1 (some 13) rfl rfl (by kernel_rfl) (by kernel_rfl) (by kernel_rfl) noPanic_put rfl (.bool true) (fun _ h => by have c := h.1.neg; go_simp) hS ?_
  simp only [Act.put, List.setIfInBounds_toArray, List.set_cons_zero, List.set_cons_succ]
  refine held_valS 2 (some 14) rfl rfl (by kernel_rfl) (by kernel_rfl) (by kernel_rfl) noPanic_put rfl (.pointer (some ⟨w.heap.size, 1, none⟩)) (fun _ _ => by go_simp) hS ?_
  simp only [Act.put, List.setIfInBounds_toArray, List.set_cons_zero, List.set_cons_succ]
  refine held_valS 3 (some 15) rfl rfl (by kernel_rfl) (by kernel_rfl) (by kernel_rfl) noPanic_put rfl (.agg (natC k p)) (fun _ h => run_mid_nat _ rfl w.heap.size 1 rfl k p h.1.size hp) hS ?_
  simp only [Act.put, List.setIfInBounds_toArray, List.set_cons_zero, List.set_cons_succ]
  refine held_valS 4 (some 16) rfl rfl (by kernel_rfl) (by kernel_rfl) (by kernel_rfl) noPanic_put rfl (.pointer (some ⟨w.heap.size + 1, 1, none⟩)) (fun _ _ => by go_simp) hS ?_
  simp only [Act.put, List.setIfInBounds_toArray, List.set_cons_zero, List.set_cons_succ]
  refine held_valS 5 (some 17) rfl rfl (by kernel_rfl) (by kernel_rfl) (by kernel_rfl) noPanic_put rfl (.agg (natC j q)) (fun _ h => run_mid_nat _ rfl (w.heap.size + 1) 1 rfl j q h.2.size hq) hS ?_
  simp only [Act.put, List.setIfInBounds_toArray, List.set_cons_zero, List.set_cons_succ]
  refine held_call 6 (some 18) (by kernel_rfl) rfl rfl rfl 57 #[.agg (natC k p), .agg (natC j q)] (by go_simp) _ (plus_wide W.drew HP.out.1 HP.out.2 (by omega) (by omega)) ?_
  rintro e w1 ⟨i, r, rfl, hR1, hW1⟩
  have hW1 : Below W.heap.size W w1 := ⟨hW1.os, hW1.tape, hW1.output, hW1.size, hW1.block⟩
  have hs1 := hW1.size
  have hr := hR1.len
  have HR1 := hide hR1
  have S1 : WholeAt w1 w.heap.size true k p ∧ WholeAt w1 (w.heap.size + 1) true j q := ⟨RowAt.below A hW1 (by omega), RowAt.below B hW1 (by omega)⟩
  have C1 : WholeAt w1 (w.heap.size + 1 + 1) false 0 zP := RowAt.below C hW1 (by omega)
  have hB1 : Below w.heap.size w w1 := hB.trans (hW1.mono hB.size)
  clear A B C hB hS hR1 hW1
  refine ⟨_, rfl, S1, ?_⟩
  simp only [Act.put, List.setIfInBounds_toArray, List.set_cons_zero, List.set_cons_succ]
  refine held_valS 7 (some 19) rfl rfl (by kernel_rfl) (by kernel_rfl) (by kernel_rfl) noPanic_put rfl (.agg (wholeC true i r)) (fun _ _ => run_bw _ _ rfl true i r hr rfl rfl) S1 ?_
  simp only [Act.put, List.setIfInBounds_toArray, List.set_cons_zero, List.set_cons_succ]
  refine held_store_whole 8 (by kernel_rfl) rfl rfl _ _ rfl rfl (w.heap.size + 1 + 1) true i r rfl rfl false 0 zP C1 zP_len hr ?_
  intro w2 hN2 hg2 hs2
  refine ⟨⟨RowAt.grown S1.1 hg2 (by simp; omega), RowAt.grown S1.2 hg2 (by simp)⟩, ?_⟩
  refine wpAnyH_done (by kernel_rfl) ?_ _
  refine NoPanic.normal ?_
  go_wp2
  refine bodyPost_ret (v := .agg (wholeC true i r)) (res_whole Try.results47 _ _ (w.heap.size + 1 + 1) _ _ _ rfl hN2 hr) rfl ⟨i, r, by rw [HS.out.1], by rw [HS.out.2]; exact HR1.out, ?_⟩
  exact hB1.grown hg2 (by have := hB1.size; omega) (by intro k hk; cases hk; omega)

set_option maxHeartbeats 1000000 in
set_option maxRecDepth 100000 in
theorem added_false_false {n m k j : Nat} {p q : List Int} (w : World) (hP : Rep n k p) (hQ : Rep m j q) (hk : k ≤ 201) (hj : j ≤ 201) :
    Calls Try.prog 47 #[.agg (wholeC false k p), .agg (wholeC false j q)] w fun e w' => ∃ (i : Nat) (r : List Int), e = .returned (.agg (wholeC (decide (sg false n + sg false m < 0)) i r)) ∧ Rep (sg false n + sg false m).natAbs i r ∧ Below w.heap.size w w' := by
  have hz := zero_nat.1
  have hz1 := zero_whole.1
  have hp := hP.len
  have hq := hQ.len
  have A : WholeAt (((w.alloc (.cells (wholeC false k p) 32)).alloc (.cells (wholeC false j q) 32)).alloc (.cells (wholeC false 0 zP) 32)) w.heap.size false k p := RowAt.old (RowAt.old (WholeAt.new w false k p) _) _
  have B : WholeAt (((w.alloc (.cells (wholeC false k p) 32)).alloc (.cells (wholeC false j q) 32)).alloc (.cells (wholeC false 0 zP) 32)) (w.heap.size + 1) false j q := by
    have := RowAt.old (WholeAt.new (w.alloc (.cells (wholeC false k p) 32)) false j q) (.cells (wholeC false 0 zP) 32)
    simp only [World.size_alloc] at this; exact this
  have C : WholeAt (((w.alloc (.cells (wholeC false k p) 32)).alloc (.cells (wholeC false j q) 32)).alloc (.cells (wholeC false 0 zP) 32)) (w.heap.size + 1 + 1) false 0 zP := by
    have := WholeAt.new ((w.alloc (.cells (wholeC false k p) 32)).alloc (.cells (wholeC false j q) 32)) false 0 zP
    simp only [World.size_alloc] at this; exact this
  have hB : Below w.heap.size w (((w.alloc (.cells (wholeC false k p) 32)).alloc (.cells (wholeC false j q) 32)).alloc (.cells (wholeC false 0 zP) 32)) := (((Below.refl _ _).alloc (Nat.le_refl _) _).alloc (by simp) _).alloc (by simp; omega) _
  obtain ⟨W, hWd⟩ : ∃ W, W = (((w.alloc (.cells (wholeC false k p) 32)).alloc (.cells (wholeC false j q) 32)).alloc (.cells (wholeC false 0 zP) 32)) := ⟨_, rfl⟩
  have hWs : W.heap.size = w.heap.size + 1 + 1 + 1 := by rw [hWd]; simp
  have HP := hide (And.intro hP hQ)
  clear hP hQ
  have a0 := A.neg
  have b0 := B.neg
  have HS : Hid (decide (sg false n + sg false m < 0) = false ∧ (sg false n + sg false m).natAbs = n + m) := ⟨decide_eq_false (by simp [sg]; omega), by simp [sg]; omega⟩
  go_enter Try.func47, Try.ntmps47
  go_wp2_with fail
  rw [← hWd] at A B C hB ⊢
  clear hWd a0 b0
  refine held_begin (fun w' => WholeAt w' w.heap.size false k p ∧ WholeAt w' (w.heap.size + 1) false j q) (by kernel_rfl) ?_
  have hS : WholeAt W.drew w.heap.size false k p ∧ WholeAt W.drew (w.heap.size + 1) false j q := ⟨A, B⟩
  refine held_valS 0 (some 12) rfl rfl (by kernel_rfl) (by kernel_rfl) (by kernel_rfl) noPanic_put rfl (.pointer (some ⟨w.heap.size, 0, none⟩)) (fun _ _ => by go_simp) hS ?_
  simp only [Act.put, List.setIfInBounds_toArray, List.set_cons_zero, List.set_cons_succ]
  refine held_valS 1 (some 13) rfl rfl (by kernel_rfl) (by kernel_rfl) (by kernel_rfl) noPanic_put rfl (.bool false) (fun _ h => by have c := h.1.neg; go_simp) hS ?_
  simp only [Act.put, List.setIfInBounds_toArray, List.set_cons_zero, List.set_cons_succ]
  refine held_valS 2 (some 14) rfl rfl (by kernel_rfl) (by kernel_rfl) (by kernel_rfl) noPanic_put rfl (.pointer (some ⟨w.heap.size, 1, none⟩)) (fun _ _ => by go_simp) hS ?_
  simp only [Act.put, List.setIfInBounds_toArray, List.set_cons_zero, List.set_cons_succ]
  refine held_valS 3 (some 15) rfl rfl (by kernel_rfl) (by kernel_rfl) (by kernel_rfl) noPanic_put rfl (.agg (natC k p)) (fun _ h => run_mid_nat _ rfl w.heap.size 1 rfl k p h.1.size hp) hS ?_
  simp only [Act.put, List.setIfInBounds_toArray, List.set_cons_zero, List.set_cons_succ]
  refine held_valS 4 (some 16) rfl rfl (by kernel_rfl) (by kernel_rfl) (by kernel_rfl) noPanic_put rfl (.pointer (some ⟨w.heap.size + 1, 1, none⟩)) (fun _ _ => by go_simp) hS ?_
  simp only [Act.put, List.setIfInBounds_toArray, List.set_cons_zero, List.set_cons_succ]
  refine held_valS 5 (some 17) rfl rfl (by kernel_rfl) (by kernel_rfl) (by kernel_rfl) noPanic_put rfl (.agg (natC j q)) (fun _ h => run_mid_nat _ rfl (w.heap.size + 1) 1 rfl j q h.2.size hq) hS ?_
  simp only [Act.put, List.setIfInBounds_toArray, List.set_cons_zero, List.set_cons_succ]
  refine held_call 6 (some 18) (by kernel_rfl) rfl rfl rfl 57 #[.agg (natC k p), .agg (natC j q)] (by go_simp) _ (plus_wide W.drew HP.out.1 HP.out.2 (by omega) (by omega)) ?_
  rintro e w1 ⟨i, r, rfl, hR1, hW1⟩
  have hW1 : Below W.heap.size W w1 := ⟨hW1.os, hW1.tape, hW1.output, hW1.size, hW1.block⟩
  have hs1 := hW1.size
  have hr := hR1.len
  have HR1 := hide hR1
  have S1 : WholeAt w1 w.heap.size false k p ∧ WholeAt w1 (w.heap.size + 1) false j q := ⟨RowAt.below A hW1 (by omega), RowAt.below B hW1 (by omega)⟩
  have C1 : WholeAt w1 (w.heap.size + 1 + 1) false 0 zP := RowAt.below C hW1 (by omega)
  have hB1 : Below w.heap.size w w1 := hB.trans (hW1.mono hB.size)
  clear A B C hB hS hR1 hW1
  refine ⟨_, rfl, S1, ?_⟩
  simp only [Act.put, List.setIfInBounds_toArray, List.set_cons_zero, List.set_cons_succ]
  refine held_valS 7 (some 19) rfl rfl (by kernel_rfl) (by kernel_rfl) (by kernel_rfl) noPanic_put rfl (.agg (wholeC false i r)) (fun _ _ => run_bw _ _ rfl false i r hr rfl rfl) S1 ?_
  simp only [Act.put, List.setIfInBounds_toArray, List.set_cons_zero, List.set_cons_succ]
  refine held_store_whole 8 (by kernel_rfl) rfl rfl _ _ rfl rfl (w.heap.size + 1 + 1) false i r rfl rfl false 0 zP C1 zP_len hr ?_
  intro w2 hN2 hg2 hs2
  refine ⟨⟨RowAt.grown S1.1 hg2 (by simp; omega), RowAt.grown S1.2 hg2 (by simp)⟩, ?_⟩
  refine wpAnyH_done (by kernel_rfl) ?_ _
  refine NoPanic.normal ?_
  go_wp2
  refine bodyPost_ret (v := .agg (wholeC false i r)) (res_whole Try.results47 _ _ (w.heap.size + 1 + 1) _ _ _ rfl hN2 hr) rfl ⟨i, r, by rw [HS.out.1], by rw [HS.out.2]; exact HR1.out, ?_⟩
  exact hB1.grown hg2 (by have := hB1.size; omega) (by intro k hk; cases hk; omega)

set_option maxHeartbeats 1000000 in
set_option maxRecDepth 100000 in
theorem added_true_false {n m k j : Nat} {p q : List Int} (w : World) (hP : Rep n k p) (hQ : Rep m j q) (hk : k ≤ 201) (hj : j ≤ 201) :
    Calls Try.prog 47 #[.agg (wholeC true k p), .agg (wholeC false j q)] w fun e w' => ∃ (i : Nat) (r : List Int), e = .returned (.agg (wholeC (decide (sg true n + sg false m < 0)) i r)) ∧ Rep (sg true n + sg false m).natAbs i r ∧ Below w.heap.size w w' := by
  have hz := zero_nat.1
  have hz1 := zero_whole.1
  have hp := hP.len
  have hq := hQ.len
  have A : WholeAt (((w.alloc (.cells (wholeC true k p) 32)).alloc (.cells (wholeC false j q) 32)).alloc (.cells (wholeC false 0 zP) 32)) w.heap.size true k p := RowAt.old (RowAt.old (WholeAt.new w true k p) _) _
  have B : WholeAt (((w.alloc (.cells (wholeC true k p) 32)).alloc (.cells (wholeC false j q) 32)).alloc (.cells (wholeC false 0 zP) 32)) (w.heap.size + 1) false j q := by
    have := RowAt.old (WholeAt.new (w.alloc (.cells (wholeC true k p) 32)) false j q) (.cells (wholeC false 0 zP) 32)
    simp only [World.size_alloc] at this; exact this
  have C : WholeAt (((w.alloc (.cells (wholeC true k p) 32)).alloc (.cells (wholeC false j q) 32)).alloc (.cells (wholeC false 0 zP) 32)) (w.heap.size + 1 + 1) false 0 zP := by
    have := WholeAt.new ((w.alloc (.cells (wholeC true k p) 32)).alloc (.cells (wholeC false j q) 32)) false 0 zP
    simp only [World.size_alloc] at this; exact this
  have hB : Below w.heap.size w (((w.alloc (.cells (wholeC true k p) 32)).alloc (.cells (wholeC false j q) 32)).alloc (.cells (wholeC false 0 zP) 32)) := (((Below.refl _ _).alloc (Nat.le_refl _) _).alloc (by simp) _).alloc (by simp; omega) _
  obtain ⟨W, hWd⟩ : ∃ W, W = (((w.alloc (.cells (wholeC true k p) 32)).alloc (.cells (wholeC false j q) 32)).alloc (.cells (wholeC false 0 zP) 32)) := ⟨_, rfl⟩
  have hWs : W.heap.size = w.heap.size + 1 + 1 + 1 := by rw [hWd]; simp
  have HP := hide (And.intro hP hQ)
  clear hP hQ
  have a0 := A.neg
  have b0 := B.neg
  go_enter Try.func47, Try.ntmps47
  go_wp2_with (first | (refine load_mid_nat rfl _ rfl w.heap.size 1 rfl k p A.size hp ?_) | (refine load_mid_nat rfl _ rfl (w.heap.size + 1) 1 rfl j q B.size hq ?_))
  rw [← hWd] at A B C hB ⊢
  clear hWd a0 b0
  refine (minus_any 1 0 W HP.out.1 HP.out.2 (by omega) (by omega) (by omega) (by omega)).mono ?_
  rintro e w1 (⟨i, r, x, rfl, hR1, hx, hW1⟩ | ⟨rfl, hx, hW1⟩)
  · have hs1 := hW1.size
    have hr := hR1.len
    have HR1 := hide hR1
    have hx' : (x : Int) = (n : Int) - (m : Int) := by simpa using hx
    have HX : Hid ((true && decide (0 < i)) = decide (sg true n + sg false m < 0) ∧ (sg true n + sg false m).natAbs = x) := by
      have hz := hR1.zero_iff
      have h1 : (sg true n + sg false m) = sg true x := by simp only [sg, if_true, Bool.false_eq_true, if_false]; omega
      rw [h1, sg_abs]
      refine ⟨?_, rfl⟩
      by_cases e : i = 0
      · have := hz.1 e; subst this; subst e; simp [sg]
      · have e2 : x ≠ 0 := fun e' => e (hz.2 e')
        simp only [sg, if_true, decide_eq_true (show 0 < i by omega)]
        first | (rw [decide_eq_true (show -(x : Int) < 0 by omega)]; rfl) | (rw [decide_eq_false (show ¬ (x : Int) < 0 by omega)]; rfl)
    have A1 : WholeAt w1 w.heap.size true k p := RowAt.below A hW1 (by omega)
    have C1 : WholeAt w1 (w.heap.size + 1 + 1) false 0 zP := RowAt.below C hW1 (by omega)
    have hB1 : Below w.heap.size w w1 := hB.trans (hW1.mono hB.size)
    have F1 := NatAt.new w1 0 zP
    clear A B C hB hR1 hW1 hx hx'
    go_wp2_with (first | (refine store_nat rfl _ _ rfl rfl w1.heap.size i r rfl rfl 0 zP F1 zP_len hr ?_; intro w2 hN2 hg2 hs2; have A2 : WholeAt w2 w.heap.size true k p := RowAt.grown (RowAt.old A1 (.cells (natC 0 zP) 30)) hg2 (by simp; omega); have a2 := A2.neg) | (refine load_nat rfl _ rfl w1.heap.size rfl i r hN2 hr ?_))
    have C2 : WholeAt w2 (w.heap.size + 1 + 1) false 0 zP := RowAt.grown (RowAt.old C1 (.cells (natC 0 zP) 30)) hg2 (by simp; omega)
    have hB2 : Below w.heap.size w w2 := (hB1.alloc (by have := hB1.size; omega) _).grown hg2 (by have := hB1.size; simp; omega) (by intro k hk; cases hk; omega)
    have hs2' : w2.heap.size = w1.heap.size + 1 := by rw [hs2]; simp
    refine (wholeOf_any true i r w2 hr).mono ?_
    rintro e w3 ⟨rfl, hW3⟩
    have C3 : WholeAt w3 (w.heap.size + 1 + 1) false 0 zP := RowAt.below C2 hW3 (by omega)
    have hB3 : Below w.heap.size w w3 := hB2.trans (hW3.mono hB2.size)
    obtain ⟨G, hG⟩ : ∃ G, G = (true && decide (0 < i)) := ⟨_, rfl⟩
    rw [← hG]
    have HG := hide hG
    clear hG A1 C1 F1 hN2 hg2 hs2 A2 a2 C2 hB1 hB2 hW3
    go_wp2_with (refine store_whole rfl _ _ rfl rfl (w.heap.size + 1 + 1) G i r rfl rfl false 0 zP C3 zP_len hr ?_; intro w4 hN4 hg4 hs4)
    refine bodyPost_ret (v := .agg (wholeC G i r)) (res_whole Try.results47 _ _ (w.heap.size + 1 + 1) _ _ _ rfl hN4 hr) rfl ⟨i, r, by rw [HG.out, HX.out.1], by rw [HX.out.2]; exact HR1.out, ?_⟩
    exact hB3.grown hg4 (by have := hB3.size; omega) (by intro k hk; cases hk; omega)
  · have hs1 := hW1.size
    have hx' : (n : Int) < (m : Int) := by simpa using hx
    have A1 : WholeAt w1 w.heap.size true k p := RowAt.below A hW1 (by omega)
    have B1 : WholeAt w1 (w.heap.size + 1) false j q := RowAt.below B hW1 (by omega)
    have C1 : WholeAt w1 (w.heap.size + 1 + 1) false 0 zP := RowAt.below C hW1 (by omega)
    have hB1 : Below w.heap.size w w1 := hB.trans (hW1.mono hB.size)
    have F1 := NatAt.new w1 0 zP
    have HX := hide hx'
    clear A B C hB hW1 hx hx'
    go_wp2_with (first | (refine store_nat rfl _ _ rfl rfl w1.heap.size 0 zP rfl rfl 0 zP F1 zP_len zP_len ?_; intro w2 hN2 hg2 hs2; have A2 : WholeAt w2 w.heap.size true k p := RowAt.grown (RowAt.old A1 (.cells (natC 0 zP) 30)) hg2 (by simp; omega); have B2 : WholeAt w2 (w.heap.size + 1) false j q := RowAt.grown (RowAt.old B1 (.cells (natC 0 zP) 30)) hg2 (by simp; omega)) | (refine load_mid_nat rfl _ rfl (w.heap.size + 1) 1 rfl j q B2.size hq ?_) | (refine load_mid_nat rfl _ rfl w.heap.size 1 rfl k p A2.size hp ?_))
    have C2 : WholeAt w2 (w.heap.size + 1 + 1) false 0 zP := RowAt.grown (RowAt.old C1 (.cells (natC 0 zP) 30)) hg2 (by simp; omega)
    have hB2 : Below w.heap.size w w2 := (hB1.alloc (by have := hB1.size; omega) _).grown hg2 (by have := hB1.size; simp; omega) (by intro k hk; cases hk; omega)
    have hs2' : w2.heap.size = w1.heap.size + 1 := by rw [hs2]; simp
    refine (minus_any 1 0 w2 HP.out.2 HP.out.1 (by omega) (by omega) (by omega) (by omega)).mono ?_
    rintro e w3 (⟨i, r, x, rfl, hR3, hx, hW3⟩ | ⟨rfl, hx, hW3⟩)
    · have hr := hR3.len
      have HR3 := hide hR3
      have hx' : (x : Int) = (m : Int) - (n : Int) := by simpa using hx
      have HY : Hid (decide (sg true n + sg false m < 0) = false ∧ (sg true n + sg false m).natAbs = x) := by
        have := HX.out
        have h1 : (sg true n + sg false m) = sg false x := by simp only [sg, if_true, Bool.false_eq_true, if_false]; omega
        rw [h1, sg_abs]
        refine ⟨?_, rfl⟩
        simp only [sg, Bool.false_eq_true, if_false]
        first | exact decide_eq_true (by omega) | exact decide_eq_false (by omega)
      have N3 : NatAt w3 w1.heap.size 0 zP := hN2.below hW3 (by omega)
      have B3 : WholeAt w3 (w.heap.size + 1) false j q := RowAt.below B2 hW3 (by omega)
      have C3 : WholeAt w3 (w.heap.size + 1 + 1) false 0 zP := RowAt.below C2 hW3 (by omega)
      have hs3 := hW3.size
      have hB3 : Below w.heap.size w w3 := hB2.trans (hW3.mono hB2.size)
      clear A1 B1 C1 F1 hN2 hg2 hs2 A2 B2 C2 hB1 hB2 hR3 hW3 hx hx'
      go_wp2_with (first | (refine store_nat rfl _ _ rfl rfl w1.heap.size i r rfl rfl 0 zP N3 zP_len hr ?_; intro w4 hN4 hg4 hs4; have B4 : WholeAt w4 (w.heap.size + 1) false j q := RowAt.grown B3 hg4 (by simp; omega); have b4 := B4.neg) | (refine load_nat rfl _ rfl w1.heap.size rfl i r hN4 hr ?_) | (refine build_whole rfl _ _ rfl _ rfl false i r hr rfl rfl ?_) | (refine store_whole rfl _ _ rfl rfl (w.heap.size + 1 + 1) false i r rfl rfl false 0 zP (RowAt.grown C3 hg4 (by simp; omega)) zP_len hr ?_; intro w5 hN5 hg5 hs5))
      refine bodyPost_ret (v := .agg (wholeC false i r)) (res_whole Try.results47 _ _ (w.heap.size + 1 + 1) _ _ _ rfl hN5 hr) rfl ⟨i, r, by rw [HY.out.1], by rw [HY.out.2]; exact HR3.out, ?_⟩
      exact (hB3.grown hg4 (by have := hB3.size; omega) (by intro k hk; cases hk; omega)).grown hg5 (by have := hB3.size; omega) (by intro k hk; cases hk; omega)
    · exfalso
      have := HX.out
      have hx' : (m : Int) < (n : Int) := by simpa using hx
      omega

set_option maxHeartbeats 1000000 in
set_option maxRecDepth 100000 in
theorem added_false_true {n m k j : Nat} {p q : List Int} (w : World) (hP : Rep n k p) (hQ : Rep m j q) (hk : k ≤ 201) (hj : j ≤ 201) :
    Calls Try.prog 47 #[.agg (wholeC false k p), .agg (wholeC true j q)] w fun e w' => ∃ (i : Nat) (r : List Int), e = .returned (.agg (wholeC (decide (sg false n + sg true m < 0)) i r)) ∧ Rep (sg false n + sg true m).natAbs i r ∧ Below w.heap.size w w' := by
  have hz := zero_nat.1
  have hz1 := zero_whole.1
  have hp := hP.len
  have hq := hQ.len
  have A : WholeAt (((w.alloc (.cells (wholeC false k p) 32)).alloc (.cells (wholeC true j q) 32)).alloc (.cells (wholeC false 0 zP) 32)) w.heap.size false k p := RowAt.old (RowAt.old (WholeAt.new w false k p) _) _
  have B : WholeAt (((w.alloc (.cells (wholeC false k p) 32)).alloc (.cells (wholeC true j q) 32)).alloc (.cells (wholeC false 0 zP) 32)) (w.heap.size + 1) true j q := by
    have := RowAt.old (WholeAt.new (w.alloc (.cells (wholeC false k p) 32)) true j q) (.cells (wholeC false 0 zP) 32)
    simp only [World.size_alloc] at this; exact this
  have C : WholeAt (((w.alloc (.cells (wholeC false k p) 32)).alloc (.cells (wholeC true j q) 32)).alloc (.cells (wholeC false 0 zP) 32)) (w.heap.size + 1 + 1) false 0 zP := by
    have := WholeAt.new ((w.alloc (.cells (wholeC false k p) 32)).alloc (.cells (wholeC true j q) 32)) false 0 zP
    simp only [World.size_alloc] at this; exact this
  have hB : Below w.heap.size w (((w.alloc (.cells (wholeC false k p) 32)).alloc (.cells (wholeC true j q) 32)).alloc (.cells (wholeC false 0 zP) 32)) := (((Below.refl _ _).alloc (Nat.le_refl _) _).alloc (by simp) _).alloc (by simp; omega) _
  obtain ⟨W, hWd⟩ : ∃ W, W = (((w.alloc (.cells (wholeC false k p) 32)).alloc (.cells (wholeC true j q) 32)).alloc (.cells (wholeC false 0 zP) 32)) := ⟨_, rfl⟩
  have hWs : W.heap.size = w.heap.size + 1 + 1 + 1 := by rw [hWd]; simp
  have HP := hide (And.intro hP hQ)
  clear hP hQ
  have a0 := A.neg
  have b0 := B.neg
  go_enter Try.func47, Try.ntmps47
  go_wp2_with (first | (refine load_mid_nat rfl _ rfl w.heap.size 1 rfl k p A.size hp ?_) | (refine load_mid_nat rfl _ rfl (w.heap.size + 1) 1 rfl j q B.size hq ?_))
  rw [← hWd] at A B C hB ⊢
  clear hWd a0 b0
  refine (minus_any 1 0 W HP.out.1 HP.out.2 (by omega) (by omega) (by omega) (by omega)).mono ?_
  rintro e w1 (⟨i, r, x, rfl, hR1, hx, hW1⟩ | ⟨rfl, hx, hW1⟩)
  · have hs1 := hW1.size
    have hr := hR1.len
    have HR1 := hide hR1
    have hx' : (x : Int) = (n : Int) - (m : Int) := by simpa using hx
    have HX : Hid ((false && decide (0 < i)) = decide (sg false n + sg true m < 0) ∧ (sg false n + sg true m).natAbs = x) := by
      have hz := hR1.zero_iff
      have h1 : (sg false n + sg true m) = sg false x := by simp only [sg, if_true, Bool.false_eq_true, if_false]; omega
      rw [h1, sg_abs]
      refine ⟨?_, rfl⟩
      by_cases e : i = 0
      · have := hz.1 e; subst this; subst e; simp [sg]
      · have e2 : x ≠ 0 := fun e' => e (hz.2 e')
        simp only [sg, Bool.false_eq_true, if_false, decide_eq_true (show 0 < i by omega)]
        first | (rw [decide_eq_true (show -(x : Int) < 0 by omega)]; rfl) | (rw [decide_eq_false (show ¬ (x : Int) < 0 by omega)]; rfl)
    have A1 : WholeAt w1 w.heap.size false k p := RowAt.below A hW1 (by omega)
    have C1 : WholeAt w1 (w.heap.size + 1 + 1) false 0 zP := RowAt.below C hW1 (by omega)
    have hB1 : Below w.heap.size w w1 := hB.trans (hW1.mono hB.size)
    have F1 := NatAt.new w1 0 zP
    clear A B C hB hR1 hW1 hx hx'
    go_wp2_with (first | (refine store_nat rfl _ _ rfl rfl w1.heap.size i r rfl rfl 0 zP F1 zP_len hr ?_; intro w2 hN2 hg2 hs2; have A2 : WholeAt w2 w.heap.size false k p := RowAt.grown (RowAt.old A1 (.cells (natC 0 zP) 30)) hg2 (by simp; omega); have a2 := A2.neg) | (refine load_nat rfl _ rfl w1.heap.size rfl i r hN2 hr ?_))
    have C2 : WholeAt w2 (w.heap.size + 1 + 1) false 0 zP := RowAt.grown (RowAt.old C1 (.cells (natC 0 zP) 30)) hg2 (by simp; omega)
    have hB2 : Below w.heap.size w w2 := (hB1.alloc (by have := hB1.size; omega) _).grown hg2 (by have := hB1.size; simp; omega) (by intro k hk; cases hk; omega)
    have hs2' : w2.heap.size = w1.heap.size + 1 := by rw [hs2]; simp
    refine (wholeOf_any false i r w2 hr).mono ?_
    rintro e w3 ⟨rfl, hW3⟩
    have C3 : WholeAt w3 (w.heap.size + 1 + 1) false 0 zP := RowAt.below C2 hW3 (by omega)
    have hB3 : Below w.heap.size w w3 := hB2.trans (hW3.mono hB2.size)
    obtain ⟨G, hG⟩ : ∃ G, G = (false && decide (0 < i)) := ⟨_, rfl⟩
    rw [← hG]
    have HG := hide hG
    clear hG A1 C1 F1 hN2 hg2 hs2 A2 a2 C2 hB1 hB2 hW3
    go_wp2_with (refine store_whole rfl _ _ rfl rfl (w.heap.size + 1 + 1) G i r rfl rfl false 0 zP C3 zP_len hr ?_; intro w4 hN4 hg4 hs4)
    refine bodyPost_ret (v := .agg (wholeC G i r)) (res_whole Try.results47 _ _ (w.heap.size + 1 + 1) _ _ _ rfl hN4 hr) rfl ⟨i, r, by rw [HG.out, HX.out.1], by rw [HX.out.2]; exact HR1.out, ?_⟩
    exact hB3.grown hg4 (by have := hB3.size; omega) (by intro k hk; cases hk; omega)
  · have hs1 := hW1.size
    have hx' : (n : Int) < (m : Int) := by simpa using hx
    have A1 : WholeAt w1 w.heap.size false k p := RowAt.below A hW1 (by omega)
    have B1 : WholeAt w1 (w.heap.size + 1) true j q := RowAt.below B hW1 (by omega)
    have C1 : WholeAt w1 (w.heap.size + 1 + 1) false 0 zP := RowAt.below C hW1 (by omega)
    have hB1 : Below w.heap.size w w1 := hB.trans (hW1.mono hB.size)
    have F1 := NatAt.new w1 0 zP
    have HX := hide hx'
    clear A B C hB hW1 hx hx'
    go_wp2_with (first | (refine store_nat rfl _ _ rfl rfl w1.heap.size 0 zP rfl rfl 0 zP F1 zP_len zP_len ?_; intro w2 hN2 hg2 hs2; have A2 : WholeAt w2 w.heap.size false k p := RowAt.grown (RowAt.old A1 (.cells (natC 0 zP) 30)) hg2 (by simp; omega); have B2 : WholeAt w2 (w.heap.size + 1) true j q := RowAt.grown (RowAt.old B1 (.cells (natC 0 zP) 30)) hg2 (by simp; omega)) | (refine load_mid_nat rfl _ rfl (w.heap.size + 1) 1 rfl j q B2.size hq ?_) | (refine load_mid_nat rfl _ rfl w.heap.size 1 rfl k p A2.size hp ?_))
    have C2 : WholeAt w2 (w.heap.size + 1 + 1) false 0 zP := RowAt.grown (RowAt.old C1 (.cells (natC 0 zP) 30)) hg2 (by simp; omega)
    have hB2 : Below w.heap.size w w2 := (hB1.alloc (by have := hB1.size; omega) _).grown hg2 (by have := hB1.size; simp; omega) (by intro k hk; cases hk; omega)
    have hs2' : w2.heap.size = w1.heap.size + 1 := by rw [hs2]; simp
    refine (minus_any 1 0 w2 HP.out.2 HP.out.1 (by omega) (by omega) (by omega) (by omega)).mono ?_
    rintro e w3 (⟨i, r, x, rfl, hR3, hx, hW3⟩ | ⟨rfl, hx, hW3⟩)
    · have hr := hR3.len
      have HR3 := hide hR3
      have hx' : (x : Int) = (m : Int) - (n : Int) := by simpa using hx
      have HY : Hid (decide (sg false n + sg true m < 0) = true ∧ (sg false n + sg true m).natAbs = x) := by
        have := HX.out
        have h1 : (sg false n + sg true m) = sg true x := by simp only [sg, if_true, Bool.false_eq_true, if_false]; omega
        rw [h1, sg_abs]
        refine ⟨?_, rfl⟩
        simp only [sg, if_true]
        first | exact decide_eq_true (by omega) | exact decide_eq_false (by omega)
      have N3 : NatAt w3 w1.heap.size 0 zP := hN2.below hW3 (by omega)
      have B3 : WholeAt w3 (w.heap.size + 1) true j q := RowAt.below B2 hW3 (by omega)
      have C3 : WholeAt w3 (w.heap.size + 1 + 1) false 0 zP := RowAt.below C2 hW3 (by omega)
      have hs3 := hW3.size
      have hB3 : Below w.heap.size w w3 := hB2.trans (hW3.mono hB2.size)
      clear A1 B1 C1 F1 hN2 hg2 hs2 A2 B2 C2 hB1 hB2 hR3 hW3 hx hx'
      go_wp2_with (first | (refine store_nat rfl _ _ rfl rfl w1.heap.size i r rfl rfl 0 zP N3 zP_len hr ?_; intro w4 hN4 hg4 hs4; have B4 : WholeAt w4 (w.heap.size + 1) true j q := RowAt.grown B3 hg4 (by simp; omega); have b4 := B4.neg) | (refine load_nat rfl _ rfl w1.heap.size rfl i r hN4 hr ?_) | (refine build_whole rfl _ _ rfl _ rfl true i r hr rfl rfl ?_) | (refine store_whole rfl _ _ rfl rfl (w.heap.size + 1 + 1) true i r rfl rfl false 0 zP (RowAt.grown C3 hg4 (by simp; omega)) zP_len hr ?_; intro w5 hN5 hg5 hs5))
      refine bodyPost_ret (v := .agg (wholeC true i r)) (res_whole Try.results47 _ _ (w.heap.size + 1 + 1) _ _ _ rfl hN5 hr) rfl ⟨i, r, by rw [HY.out.1], by rw [HY.out.2]; exact HR3.out, ?_⟩
      exact (hB3.grown hg4 (by have := hB3.size; omega) (by intro k hk; cases hk; omega)).grown hg5 (by have := hB3.size; omega) (by intro k hk; cases hk; omega)
    · exfalso
      have := HX.out
      have hx' : (m : Int) < (n : Int) := by simpa using hx
      omega

theorem added_any {n m k j : Nat} {p q : List Int} (g g' : Bool) (w : World) (hP : Rep n k p) (hQ : Rep m j q) (hk : k ≤ 201) (hj : j ≤ 201) (h0 : g = true → n ≠ 0) :
    Calls Try.prog 47 #[.agg (wholeC g k p), .agg (wholeC g' j q)] w fun e w' => ∃ (i : Nat) (r : List Int), e = .returned (.agg (wholeC (decide (sg g n + sg g' m < 0)) i r)) ∧ Rep (sg g n + sg g' m).natAbs i r ∧ Below w.heap.size w w' := by
  cases g <;> cases g'
  · exact added_false_false w hP hQ hk hj
  · exact added_false_true w hP hQ hk hj
  · exact added_true_false w hP hQ hk hj
  · exact added_true_true w hP hQ hk hj (h0 rfl)
end Go.Proofs.Yteihephciiifbaa

/-
  What sumTop of impl's fractions answers: the top of a sum over the product of both bottoms; by complex numbers where both are small.
-/
namespace Go.Proofs.Yteihephciiifbaa
open Go.RowKit
set_option linter.unusedVariables false

theorem Rep.used_le {N i : Nat} {r : List Int} (h : Rep N i r) (K : Nat) (hN : N < 1000000 ^ K) : i ≤ K := by
  by_cases hi : i ≤ K
  · exact hi
  · have h1 := h.geN (by omega)
    have h2 : 1000000 ^ K ≤ 1000000 ^ (i - 1) := Nat.pow_le_pow_right (by decide) (by omega)
    omega
theorem topZ_used {g : Bool} {n m : Nat} {g' : Bool} {n' m' k j k' j' i : Nat} {p q p' q' r : List Int} (hP : Rep n k p) (hQ : Rep m j q) (hP' : Rep n' k' p') (hQ' : Rep m' j' q') (hk : k ≤ 100) (hj : j ≤ 100) (hk' : k' ≤ 100) (hj' : j' ≤ 100) (hR : Rep (topZ g n m g' n' m').natAbs i r) : i ≤ 201 := by
  have up : ∀ {x y : Nat} {l : List Int}, Rep x y l → y ≤ 100 → x < 1000000 ^ 100 := fun h hy => Nat.lt_of_lt_of_le h.ltN (Nat.pow_le_pow_right (by decide) hy)
  have h1 := Nat.mul_lt_mul'' (up hP hk) (up hQ' hj')
  have h2 := Nat.mul_lt_mul'' (up hP' hk') (up hQ hj)
  have h3 := topZ_abs g n m g' n' m'
  apply hR.used_le
  rw [show 201 = 100 + 100 + 1 by rfl, Nat.pow_succ, Nat.pow_add]
  generalize 1000000 ^ 100 * 1000000 ^ 100 = X at h1 h2 ⊢
  omega

theorem cmul_small {x y x' y' : Nat} {a b c d : Int} (h1 : F64 x a) (h2 : F64 y b) (h3 : F64 x' c) (h4 : F64 y' d) (ha : a.natAbs < 1000000) (hb : b.natAbs < 1000000) (hc : c.natAbs < 1000000) (hd : d.natAbs < 1000000) : ∃ re im, cMulBits x y x' y' = some (re, im) ∧ F64 im (b * c + d * a) ∧ (b * c + d * a).natAbs < 2000000000000 := by
  have key : ∀ {u v : Int}, u.natAbs < 1000000 → v.natAbs < 1000000 → (u * v).natAbs < 1000000000000 := fun {u v} hu hv => by
    rw [Int.natAbs_mul]; exact Nat.mul_lt_mul'' hu hv
  have k1 := key ha hc
  have k2 := key hb hd
  have k3 := key ha hd
  have k4 := key hb hc
  obtain ⟨ac, e1, f1⟩ := F64.mul h1 h3 (by omega)
  obtain ⟨bd, e2, f2⟩ := F64.mul h2 h4 (by omega)
  obtain ⟨re, e3, f3⟩ := F64.sub f1 f2 (by omega)
  obtain ⟨ad, e4, f4⟩ := F64.mul h1 h4 (by omega)
  obtain ⟨bc, e5, f5⟩ := F64.mul h2 h3 (by omega)
  obtain ⟨im, e6, f6⟩ := F64.add f4 f5 (by omega)
  have hz : a * d + b * c = b * c + d * a := by rw [Int.mul_comm a d]; omega
  refine ⟨re, im, ?_, by rw [← hz]; exact f6, by rw [← hz]; omega⟩
  have g1 : floatBits .mul .f64 x x' = some ac := e1
  have g2 : floatBits .mul .f64 y y' = some bd := e2
  have g3 : floatBits .sub .f64 ac bd = some re := e3
  have g4 : floatBits .mul .f64 x y' = some ad := e4
  have g5 : floatBits .mul .f64 y x' = some bc := e5
  have g6 : floatBits .add .f64 ad bc = some im := e6
  unfold cMulBits
  simp [g1, g2, g3, g4, g5, g6]

set_option maxHeartbeats 2000000 in
set_option maxRecDepth 100000 in
theorem sumTop_any {n m k j n' m' k' j' : Nat} {p q p' q' : List Int} (g g' : Bool) (w : World) (hP : Rep n k p) (hQ : Rep m j q) (hP' : Rep n' k' p') (hQ' : Rep m' j' q') (hk : k ≤ 100) (hj : j ≤ 100) (hk' : k' ≤ 100) (hj' : j' ≤ 100) (h0 : g = true → n ≠ 0) (h1 : m' ≠ 0) :
    Calls Try.prog 25 #[.agg (numC g k p j q), .agg (numC g' k' p' j' q')] w fun e w' => ∃ (i : Nat) (r : List Int), e = .returned (.agg (wholeC (decide (topZ g n m g' n' m' < 0)) i r)) ∧ Rep (topZ g n m g' n' m').natAbs i r ∧ Below w.heap.size w w' := by
  have hz1 := zero_whole.1
  have hp := hP.len
  have hq := hQ.len
  have hp' := hP'.len
  have hq' := hQ'.len
  have A : NumAt (((w.alloc (.cells (numC g k p j q) 34)).alloc (.cells (numC g' k' p' j' q') 34)).alloc (.cells (wholeC false 0 zP) 32)) w.heap.size g k p j q := RowAt.old (RowAt.old (NumAt.new w g k p j q) _) _
  have B : NumAt (((w.alloc (.cells (numC g k p j q) 34)).alloc (.cells (numC g' k' p' j' q') 34)).alloc (.cells (wholeC false 0 zP) 32)) (w.heap.size + 1) g' k' p' j' q' := by
    have := RowAt.old (NumAt.new (w.alloc (.cells (numC g k p j q) 34)) g' k' p' j' q') (.cells (wholeC false 0 zP) 32)
    simp only [World.size_alloc] at this; exact this
  have C : WholeAt (((w.alloc (.cells (numC g k p j q) 34)).alloc (.cells (numC g' k' p' j' q') 34)).alloc (.cells (wholeC false 0 zP) 32)) (w.heap.size + 1 + 1) false 0 zP := by
    have := WholeAt.new ((w.alloc (.cells (numC g k p j q) 34)).alloc (.cells (numC g' k' p' j' q') 34)) false 0 zP
    simp only [World.size_alloc] at this; exact this
  have hB : Below w.heap.size w (((w.alloc (.cells (numC g k p j q) 34)).alloc (.cells (numC g' k' p' j' q') 34)).alloc (.cells (wholeC false 0 zP) 32)) := (((Below.refl _ _).alloc (Nat.le_refl _) _).alloc (by simp) _).alloc (by simp; omega) _
  obtain ⟨W, hWd⟩ : ∃ W, W = (((w.alloc (.cells (numC g k p j q) 34)).alloc (.cells (numC g' k' p' j' q') 34)).alloc (.cells (wholeC false 0 zP) 32)) := ⟨_, rfl⟩
  have hWs : W.heap.size = w.heap.size + 1 + 1 + 1 := by rw [hWd]; simp
  have HP := hide (And.intro hP hQ)
  have HP' := hide (And.intro hP' hQ')
  have H0 := hide (And.intro h0 h1)
  clear hP hQ hP' hQ' h0 h1
  go_enter Try.func25, Try.ntmps25
  go_wp2_with (refine load_num rfl _ rfl w.heap.size rfl g k p j q A hp hq ?_)
  rw [← hWd] at A B C hB ⊢
  clear hWd
  refine (isSmall_any g W hp).mono ?_
  rintro e w1 ⟨rfl, hW1⟩
  have hs1 := hW1.size
  have A1 : NumAt w1 w.heap.size g k p j q := RowAt.below A hW1 (by omega)
  have B1 : NumAt w1 (w.heap.size + 1) g' k' p' j' q' := RowAt.below B hW1 (by omega)
  have C1 : WholeAt w1 (w.heap.size + 1 + 1) false 0 zP := RowAt.below C hW1 (by omega)
  have hB1 : Below w.heap.size w w1 := hB.trans (hW1.mono hB.size)
  clear A B C hB hW1
  by_cases hs : k ≤ 1 ∧ j ≤ 1
  · rw [decide_eq_true hs.1, decide_eq_true hs.2]
    go_wp2_with (refine load_num_w rfl _ rfl (w.heap.size + 1) rfl g' k' p' j' q' B1 hp' hq' ?_)
    refine (isSmall_any g' w1 hp').mono ?_
    rintro e w2 ⟨rfl, hW2⟩
    have hs2 := hW2.size
    have A : NumAt w2 w.heap.size g k p j q := RowAt.below A1 hW2 (by omega)
    have B : NumAt w2 (w.heap.size + 1) g' k' p' j' q' := RowAt.below B1 hW2 (by omega)
    have C : WholeAt w2 (w.heap.size + 1 + 1) false 0 zP := RowAt.below C1 hW2 (by omega)
    have hB : Below w.heap.size w w2 := hB1.trans (hW2.mono hB1.size)
    clear A1 B1 C1 hB1 hW2
    by_cases hs' : k' ≤ 1 ∧ j' ≤ 1
    · rw [decide_eq_true hs'.1, decide_eq_true hs'.2]
      go_wp2_with fail
      obtain ⟨hk1, hj1⟩ := hs
      obtain ⟨hk1', hj1'⟩ := hs'
      refine held_begin (fun w' => NumAt w' w.heap.size g k p j q ∧ NumAt w' (w.heap.size + 1) g' k' p' j' q') (by kernel_rfl) ?_
      have hS : NumAt w2.drew w.heap.size g k p j q ∧ NumAt w2.drew (w.heap.size + 1) g' k' p' j' q' := ⟨A, B⟩
      refine held_load_num 0 (some 11) rfl rfl (by kernel_rfl) (by kernel_rfl) (by kernel_rfl) noPanic_put rfl _ rfl w.heap.size rfl g k p j q (fun _ h => h.1) hp hq hS ?_
      simp only [Act.put, List.setIfInBounds_toArray, List.set_cons_zero, List.set_cons_succ]
      refine held_load_num 2 (some 13) rfl rfl (by kernel_rfl) (by kernel_rfl) (by kernel_rfl) noPanic_put rfl _ rfl (w.heap.size + 1) rfl g' k' p' j' q' (fun _ h => h.2) hp' hq' hS ?_
      simp only [Act.put, List.setIfInBounds_toArray, List.set_cons_zero, List.set_cons_succ]
      refine held_call 1 (some 12) (by kernel_rfl) rfl rfl rfl 45 #[.agg (numC g k p j q)] (by go_simp) _ (asComplex_any g w2.drew HP.out.1 HP.out.2 hk1 hj1) ?_
      rintro e w5 ⟨x, y, rfl, hx, hy, hW5⟩
      have hW5 : Below w2.heap.size w2 w5 := ⟨hW5.os, hW5.tape, hW5.output, hW5.size, hW5.block⟩
      have hs5 := hW5.size
      have S5 : NumAt w5 w.heap.size g k p j q ∧ NumAt w5 (w.heap.size + 1) g' k' p' j' q' := ⟨RowAt.below A hW5 (by omega), RowAt.below B hW5 (by omega)⟩
      have C5 : WholeAt w5 (w.heap.size + 1 + 1) false 0 zP := RowAt.below C hW5 (by omega)
      have hB5 : Below w.heap.size w w5 := hB.trans (hW5.mono hB.size)
      clear A B C hB hS hW5
      refine ⟨_, rfl, S5, ?_⟩
      simp only [Act.put, List.setIfInBounds_toArray, List.set_cons_zero, List.set_cons_succ]
      refine held_call 3 (some 14) (by kernel_rfl) rfl rfl rfl 45 #[.agg (numC g' k' p' j' q')] (by go_simp) _ (asComplex_any g' w5 HP'.out.1 HP'.out.2 hk1' hj1') ?_
      rintro e w6 ⟨x', y', rfl, hx', hy', hW6⟩
      have hs6 := hW6.size
      have S6 : NumAt w6 w.heap.size g k p j q ∧ NumAt w6 (w.heap.size + 1) g' k' p' j' q' := ⟨RowAt.below S5.1 hW6 (by omega), RowAt.below S5.2 hW6 (by omega)⟩
      have C6 : WholeAt w6 (w.heap.size + 1 + 1) false 0 zP := RowAt.below C5 hW6 (by omega)
      have hB6 : Below w.heap.size w w6 := hB5.trans (hW6.mono hB5.size)
      obtain ⟨re, im, hm, hF, hab⟩ := cmul_small hx hy hx' hy' (by rw [Int.natAbs_natCast]; exact (HP.out.2.little hj1).2) (by rw [sg_abs]; exact (HP.out.1.little hk1).2) (by rw [Int.natAbs_natCast]; exact (HP'.out.2.little hj1').2) (by rw [sg_abs]; exact (HP'.out.1.little hk1').2)
      obtain ⟨Z, hZ⟩ : ∃ Z, Z = sg g n * (m' : Int) + sg g' n' * (m : Int) := ⟨_, rfl⟩
      rw [← hZ] at hF hab
      have HZ : Hid (Z = topZ g n m g' n' m') := hZ
      have hmul : ∀ w, (binOp .mul 67 (.complex .f64 x y) (.complex .f64 x' y')).run Try.prog w = .ok (.complex .f64 re im) w := fun w => run_complex_mul w _ _ _ _ _ _ _ hm
      have hcv : ∀ w, (convert 66 3 (.float .f64 im)).run Try.prog w = .ok (.int .i64 Z) w := fun w => run_convert_float_int w _ _ _ _ _ _ rfl Try.underlying3 (hF.toInt (by omega) (by omega))
      have hz1' : -400000000000000 ≤ Z := by omega
      have hz2' : Z ≤ 400000000000000 := by omega
      clear S5 C5 hB5 hW6 hx hy hx' hy' hm hF hab hZ
      refine ⟨_, rfl, S6, ?_⟩
      simp only [Act.put, List.setIfInBounds_toArray, List.set_cons_zero, List.set_cons_succ]
      refine held_valS 4 (some 15) rfl rfl (by kernel_rfl) (by kernel_rfl) (by kernel_rfl) noPanic_put rfl (.complex .f64 re im) (fun w _ => by have h := hmul w; go_simp) S6 ?_
      simp only [Act.put, List.setIfInBounds_toArray, List.set_cons_zero, List.set_cons_succ]
      refine held_valS 5 (some 16) rfl rfl (by kernel_rfl) (by kernel_rfl) (by kernel_rfl) noPanic_put rfl (.float .f64 im) (fun _ _ => by go_simp) S6 ?_
      simp only [Act.put, List.setIfInBounds_toArray, List.set_cons_zero, List.set_cons_succ]
      refine held_valS 6 (some 17) rfl rfl (by kernel_rfl) (by kernel_rfl) (by kernel_rfl) noPanic_put rfl (.int .i64 Z) (fun w _ => by have h := hcv w; go_simp) S6 ?_
      simp only [Act.put, List.setIfInBounds_toArray, List.set_cons_zero, List.set_cons_succ]
      refine held_call 7 (some 18) (by kernel_rfl) rfl rfl rfl 44 #[.int .i64 Z] (by go_simp) _ (smallWhole_any Z w6 hz1' hz2') ?_
      rintro e w7 ⟨i, r, rfl, hR7, hW7⟩
      rw [HZ.out] at hR7 ⊢
      have hr := hR7.len
      have hs7 := hW7.size
      have HR7 := hide hR7
      have S7 : NumAt w7 w.heap.size g k p j q ∧ NumAt w7 (w.heap.size + 1) g' k' p' j' q' := ⟨RowAt.below S6.1 hW7 (by omega), RowAt.below S6.2 hW7 (by omega)⟩
      have C7 : WholeAt w7 (w.heap.size + 1 + 1) false 0 zP := RowAt.below C6 hW7 (by omega)
      have hB7 : Below w.heap.size w w7 := hB6.trans (hW7.mono hB6.size)
      obtain ⟨G, hG⟩ : ∃ G, G = decide (topZ g n m g' n' m' < 0) := ⟨_, rfl⟩
      rw [← hG]
      have HG := hide hG
      clear S6 C6 hB6 hR7 hW7 hG
      refine ⟨_, rfl, S7, ?_⟩
      simp only [Act.put, List.setIfInBounds_toArray, List.set_cons_zero, List.set_cons_succ]
      refine held_store_whole 8 (by kernel_rfl) rfl rfl _ _ rfl rfl (w.heap.size + 1 + 1) G i r rfl rfl false 0 zP C7 zP_len hr ?_
      intro w8 hN8 hg8 hs8
      refine ⟨⟨RowAt.grown S7.1 hg8 (by simp; omega), RowAt.grown S7.2 hg8 (by simp)⟩, ?_⟩
      refine wpAnyH_done (by kernel_rfl) ?_ _
      refine NoPanic.normal ?_
      go_wp2
      refine bodyPost_ret (v := .agg (wholeC G i r)) (res_whole Try.results25 _ _ (w.heap.size + 1 + 1) _ _ _ rfl hN8 hr) rfl ⟨i, r, by rw [HG.out], HR7.out, ?_⟩
      exact hB7.grown hg8 (by have := hB7.size; omega) (by intro k hk; cases hk; omega)
    · have hf : (decide (k' ≤ 1) && decide (j' ≤ 1)) = false := by
        by_cases h : k' ≤ 1
        · rw [decide_eq_false (fun h2 => hs' ⟨h, h2⟩), Bool.and_false]
        · rw [decide_eq_false h, Bool.false_and]
      rw [hf]
      clear hf
      go_wp2_with fail
      refine held_begin (fun w' => NumAt w' w.heap.size g k p j q ∧ NumAt w' (w.heap.size + 1) g' k' p' j' q') (by kernel_rfl) ?_
      have hS : NumAt w2.drew w.heap.size g k p j q ∧ NumAt w2.drew (w.heap.size + 1) g' k' p' j' q' := ⟨A, B⟩
      refine held_valS 0 (some 19) rfl rfl (by kernel_rfl) (by kernel_rfl) (by kernel_rfl) noPanic_put rfl (.pointer (some ⟨w.heap.size, 0, none⟩)) (fun _ _ => by go_simp) hS ?_
      simp only [Act.put, List.setIfInBounds_toArray, List.set_cons_zero, List.set_cons_succ]
      refine held_valS 1 (some 20) rfl rfl (by kernel_rfl) (by kernel_rfl) (by kernel_rfl) noPanic_put rfl (.agg (wholeC g k p)) (fun _ h => run_mid_whole _ rfl w.heap.size 0 rfl g k p h.1.whole hp) hS ?_
      simp only [Act.put, List.setIfInBounds_toArray, List.set_cons_zero, List.set_cons_succ]
      refine held_valS 2 (some 21) rfl rfl (by kernel_rfl) (by kernel_rfl) (by kernel_rfl) noPanic_put rfl (.pointer (some ⟨w.heap.size + 1, 206, none⟩)) (fun _ _ => by go_simp) hS ?_
      simp only [Act.put, List.setIfInBounds_toArray, List.set_cons_zero, List.set_cons_succ]
      refine held_valS 3 (some 22) rfl rfl (by kernel_rfl) (by kernel_rfl) (by kernel_rfl) noPanic_put rfl (.agg (natC j' q')) (fun _ h => run_mid_nat _ rfl (w.heap.size + 1) 206 rfl j' q' (h.2.bottom hp') hq') hS ?_
      simp only [Act.put, List.setIfInBounds_toArray, List.set_cons_zero, List.set_cons_succ]
      refine held_valS 5 (some 24) rfl rfl (by kernel_rfl) (by kernel_rfl) (by kernel_rfl) noPanic_put rfl (.pointer (some ⟨w.heap.size + 1, 0, none⟩)) (fun _ _ => by go_simp) hS ?_
      simp only [Act.put, List.setIfInBounds_toArray, List.set_cons_zero, List.set_cons_succ]
      refine held_valS 6 (some 25) rfl rfl (by kernel_rfl) (by kernel_rfl) (by kernel_rfl) noPanic_put rfl (.agg (wholeC g' k' p')) (fun _ h => run_mid_whole _ rfl (w.heap.size + 1) 0 rfl g' k' p' h.2.whole hp') hS ?_
      simp only [Act.put, List.setIfInBounds_toArray, List.set_cons_zero, List.set_cons_succ]
      refine held_valS 7 (some 26) rfl rfl (by kernel_rfl) (by kernel_rfl) (by kernel_rfl) noPanic_put rfl (.pointer (some ⟨w.heap.size, 206, none⟩)) (fun _ _ => by go_simp) hS ?_
      simp only [Act.put, List.setIfInBounds_toArray, List.set_cons_zero, List.set_cons_succ]
      refine held_valS 8 (some 27) rfl rfl (by kernel_rfl) (by kernel_rfl) (by kernel_rfl) noPanic_put rfl (.agg (natC j q)) (fun _ h => run_mid_nat _ rfl w.heap.size 206 rfl j q (h.1.bottom hp) hq) hS ?_
      simp only [Act.put, List.setIfInBounds_toArray, List.set_cons_zero, List.set_cons_succ]
      refine held_call 4 (some 23) (by kernel_rfl) rfl rfl rfl 46 #[.agg (wholeC g k p), .agg (natC j' q')] (by go_simp) _ (scaled_any g w2.drew HP.out.1 HP'.out.2 hk hj') ?_
      rintro e w5 ⟨c, t, rfl, hR5, hW5⟩
      have hW5 : Below w2.heap.size w2 w5 := ⟨hW5.os, hW5.tape, hW5.output, hW5.size, hW5.block⟩
      have hs5 := hW5.size
      have hc : c ≤ 201 := by have := Rep.mul_used HP.out.1 HP'.out.2 hR5; omega
      have HR5 := hide hR5
      have S5 : NumAt w5 w.heap.size g k p j q ∧ NumAt w5 (w.heap.size + 1) g' k' p' j' q' := ⟨RowAt.below A hW5 (by omega), RowAt.below B hW5 (by omega)⟩
      have C5 : WholeAt w5 (w.heap.size + 1 + 1) false 0 zP := RowAt.below C hW5 (by omega)
      have hB5 : Below w.heap.size w w5 := hB.trans (hW5.mono hB.size)
      clear A B C hB hS hR5 hW5
      refine ⟨_, rfl, S5, ?_⟩
      simp only [Act.put, List.setIfInBounds_toArray, List.set_cons_zero, List.set_cons_succ]
      refine held_call 9 (some 28) (by kernel_rfl) rfl rfl rfl 46 #[.agg (wholeC g' k' p'), .agg (natC j q)] (by go_simp) _ (scaled_any g' w5 HP'.out.1 HP.out.2 hk' hj) ?_
      rintro e w6 ⟨d, u, rfl, hR6, hW6⟩
      have hs6 := hW6.size
      have hd : d ≤ 201 := by have := Rep.mul_used HP'.out.1 HP.out.2 hR6; omega
      have HR6 := hide hR6
      have S6 : NumAt w6 w.heap.size g k p j q ∧ NumAt w6 (w.heap.size + 1) g' k' p' j' q' := ⟨RowAt.below S5.1 hW6 (by omega), RowAt.below S5.2 hW6 (by omega)⟩
      have C6 : WholeAt w6 (w.heap.size + 1 + 1) false 0 zP := RowAt.below C5 hW6 (by omega)
      have hB6 : Below w.heap.size w w6 := hB5.trans (hW6.mono hB5.size)
      clear S5 C5 hB5 hR6 hW6
      refine ⟨_, rfl, S6, ?_⟩
      simp only [Act.put, List.setIfInBounds_toArray, List.set_cons_zero, List.set_cons_succ]
      refine held_call 10 (some 29) (by kernel_rfl) rfl rfl rfl 47 #[.agg (wholeC g c t), .agg (wholeC g' d u)] (by go_simp) _ (added_any g g' w6 HR5.out HR6.out hc hd (fun h => Nat.mul_ne_zero (H0.out.1 h) H0.out.2)) ?_
      rintro e w7 ⟨i, r, rfl, hR7, hW7⟩
      rw [topZ_eq] at hR7 ⊢
      have hr := hR7.len
      have hs7 := hW7.size
      have HR7 := hide hR7
      have S7 : NumAt w7 w.heap.size g k p j q ∧ NumAt w7 (w.heap.size + 1) g' k' p' j' q' := ⟨RowAt.below S6.1 hW7 (by omega), RowAt.below S6.2 hW7 (by omega)⟩
      have C7 : WholeAt w7 (w.heap.size + 1 + 1) false 0 zP := RowAt.below C6 hW7 (by omega)
      have hB7 : Below w.heap.size w w7 := hB6.trans (hW7.mono hB6.size)
      obtain ⟨G, hG⟩ : ∃ G, G = decide (topZ g n m g' n' m' < 0) := ⟨_, rfl⟩
      rw [← hG]
      have HG := hide hG
      clear S6 C6 hB6 hR7 hW7 hG
      refine ⟨_, rfl, S7, ?_⟩
      simp only [Act.put, List.setIfInBounds_toArray, List.set_cons_zero, List.set_cons_succ]
      refine held_store_whole 11 (by kernel_rfl) rfl rfl _ _ rfl rfl (w.heap.size + 1 + 1) G i r rfl rfl false 0 zP C7 zP_len hr ?_
      intro w8 hN8 hg8 hs8
      refine ⟨⟨RowAt.grown S7.1 hg8 (by simp; omega), RowAt.grown S7.2 hg8 (by simp)⟩, ?_⟩
      refine wpAnyH_done (by kernel_rfl) ?_ _
      refine NoPanic.normal ?_
      go_wp2
      refine bodyPost_ret (v := .agg (wholeC G i r)) (res_whole Try.results25 _ _ (w.heap.size + 1 + 1) _ _ _ rfl hN8 hr) rfl ⟨i, r, by rw [HG.out], HR7.out, ?_⟩
      exact hB7.grown hg8 (by have := hB7.size; omega) (by intro k hk; cases hk; omega)
  · have hf : (decide (k ≤ 1) && decide (j ≤ 1)) = false := by
      by_cases h : k ≤ 1
      · rw [decide_eq_false (fun h2 => hs ⟨h, h2⟩), Bool.and_false]
      · rw [decide_eq_false h, Bool.false_and]
    rw [hf]
    clear hf
    have A := A1
    have B := B1
    have C := C1
    have hB := hB1
    clear A1 B1 C1 hB1
    go_wp2_with fail
    refine held_begin (fun w' => NumAt w' w.heap.size g k p j q ∧ NumAt w' (w.heap.size + 1) g' k' p' j' q') (by kernel_rfl) ?_
    have hS : NumAt w1.drew w.heap.size g k p j q ∧ NumAt w1.drew (w.heap.size + 1) g' k' p' j' q' := ⟨A, B⟩
    refine held_valS 0 (some 19) rfl rfl (by kernel_rfl) (by kernel_rfl) (by kernel_rfl) noPanic_put rfl (.pointer (some ⟨w.heap.size, 0, none⟩)) (fun _ _ => by go_simp) hS ?_
    simp only [Act.put, List.setIfInBounds_toArray, List.set_cons_zero, List.set_cons_succ]
    refine held_valS 1 (some 20) rfl rfl (by kernel_rfl) (by kernel_rfl) (by kernel_rfl) noPanic_put rfl (.agg (wholeC g k p)) (fun _ h => run_mid_whole _ rfl w.heap.size 0 rfl g k p h.1.whole hp) hS ?_
    simp only [Act.put, List.setIfInBounds_toArray, List.set_cons_zero, List.set_cons_succ]
    refine held_valS 2 (some 21) rfl rfl (by kernel_rfl) (by kernel_rfl) (by kernel_rfl) noPanic_put rfl (.pointer (some ⟨w.heap.size + 1, 206, none⟩)) (fun _ _ => by go_simp) hS ?_
    simp only [Act.put, List.setIfInBounds_toArray, List.set_cons_zero, List.set_cons_succ]
    refine held_valS 3 (some 22) rfl rfl (by kernel_rfl) (by kernel_rfl) (by kernel_rfl) noPanic_put rfl (.agg (natC j' q')) (fun _ h => run_mid_nat _ rfl (w.heap.size + 1) 206 rfl j' q' (h.2.bottom hp') hq') hS ?_
    simp only [Act.put, List.setIfInBounds_toArray, List.set_cons_zero, List.set_cons_succ]
    refine held_valS 5 (some 24) rfl rfl (by kernel_rfl) (by kernel_rfl) (by kernel_rfl) noPanic_put rfl (.pointer (some ⟨w.heap.size + 1, 0, none⟩)) (fun _ _ => by go_simp) hS ?_
    simp only [Act.put, List.setIfInBounds_toArray, List.set_cons_zero, List.set_cons_succ]
    refine held_valS 6 (some 25) rfl rfl (by kernel_rfl) (by kernel_rfl) (by kernel_rfl) noPanic_put rfl (.agg (wholeC g' k' p')) (fun _ h => run_mid_whole _ rfl (w.heap.size + 1) 0 rfl g' k' p' h.2.whole hp') hS ?_
    simp only [Act.put, List.setIfInBounds_toArray, List.set_cons_zero, List.set_cons_succ]
    refine held_valS 7 (some 26) rfl rfl (by kernel_rfl) (by kernel_rfl) (by kernel_rfl) noPanic_put rfl (.pointer (some ⟨w.heap.size, 206, none⟩)) (fun _ _ => by go_simp) hS ?_
    simp only [Act.put, List.setIfInBounds_toArray, List.set_cons_zero, List.set_cons_succ]
    refine held_valS 8 (some 27) rfl rfl (by kernel_rfl) (by kernel_rfl) (by kernel_rfl) noPanic_put rfl (.agg (natC j q)) (fun _ h => run_mid_nat _ rfl w.heap.size 206 rfl j q (h.1.bottom hp) hq) hS ?_
    simp only [Act.put, List.setIfInBounds_toArray, List.set_cons_zero, List.set_cons_succ]
    refine held_call 4 (some 23) (by kernel_rfl) rfl rfl rfl 46 #[.agg (wholeC g k p), .agg (natC j' q')] (by go_simp) _ (scaled_any g w1.drew HP.out.1 HP'.out.2 hk hj') ?_
    rintro e w5 ⟨c, t, rfl, hR5, hW5⟩
    have hW5 : Below w1.heap.size w1 w5 := ⟨hW5.os, hW5.tape, hW5.output, hW5.size, hW5.block⟩
    have hs5 := hW5.size
    have hc : c ≤ 201 := by have := Rep.mul_used HP.out.1 HP'.out.2 hR5; omega
    have HR5 := hide hR5
    have S5 : NumAt w5 w.heap.size g k p j q ∧ NumAt w5 (w.heap.size + 1) g' k' p' j' q' := ⟨RowAt.below A hW5 (by omega), RowAt.below B hW5 (by omega)⟩
    have C5 : WholeAt w5 (w.heap.size + 1 + 1) false 0 zP := RowAt.below C hW5 (by omega)
    have hB5 : Below w.heap.size w w5 := hB.trans (hW5.mono hB.size)
    clear A B C hB hS hR5 hW5
    refine ⟨_, rfl, S5, ?_⟩
    simp only [Act.put, List.setIfInBounds_toArray, List.set_cons_zero, List.set_cons_succ]
    refine held_call 9 (some 28) (by kernel_rfl) rfl rfl rfl 46 #[.agg (wholeC g' k' p'), .agg (natC j q)] (by go_simp) _ (scaled_any g' w5 HP'.out.1 HP.out.2 hk' hj) ?_
    rintro e w6 ⟨d, u, rfl, hR6, hW6⟩
    have hs6 := hW6.size
    have hd : d ≤ 201 := by have := Rep.mul_used HP'.out.1 HP.out.2 hR6; omega
    have HR6 := hide hR6
    have S6 : NumAt w6 w.heap.size g k p j q ∧ NumAt w6 (w.heap.size + 1) g' k' p' j' q' := ⟨RowAt.below S5.1 hW6 (by omega), RowAt.below S5.2 hW6 (by omega)⟩
    have C6 : WholeAt w6 (w.heap.size + 1 + 1) false 0 zP := RowAt.below C5 hW6 (by omega)
    have hB6 : Below w.heap.size w w6 := hB5.trans (hW6.mono hB5.size)
    clear S5 C5 hB5 hR6 hW6
    refine ⟨_, rfl, S6, ?_⟩
    simp only [Act.put, List.setIfInBounds_toArray, List.set_cons_zero, List.set_cons_succ]
    refine held_call 10 (some 29) (by kernel_rfl) rfl rfl rfl 47 #[.agg (wholeC g c t), .agg (wholeC g' d u)] (by go_simp) _ (added_any g g' w6 HR5.out HR6.out hc hd (fun h => Nat.mul_ne_zero (H0.out.1 h) H0.out.2)) ?_
    rintro e w7 ⟨i, r, rfl, hR7, hW7⟩
    rw [topZ_eq] at hR7 ⊢
    have hr := hR7.len
    have hs7 := hW7.size
    have HR7 := hide hR7
    have S7 : NumAt w7 w.heap.size g k p j q ∧ NumAt w7 (w.heap.size + 1) g' k' p' j' q' := ⟨RowAt.below S6.1 hW7 (by omega), RowAt.below S6.2 hW7 (by omega)⟩
    have C7 : WholeAt w7 (w.heap.size + 1 + 1) false 0 zP := RowAt.below C6 hW7 (by omega)
    have hB7 : Below w.heap.size w w7 := hB6.trans (hW7.mono hB6.size)
    obtain ⟨G, hG⟩ : ∃ G, G = decide (topZ g n m g' n' m' < 0) := ⟨_, rfl⟩
    rw [← hG]
    have HG := hide hG
    clear S6 C6 hB6 hR7 hW7 hG
    refine ⟨_, rfl, S7, ?_⟩
    simp only [Act.put, List.setIfInBounds_toArray, List.set_cons_zero, List.set_cons_succ]
    refine held_store_whole 11 (by kernel_rfl) rfl rfl _ _ rfl rfl (w.heap.size + 1 + 1) G i r rfl rfl false 0 zP C7 zP_len hr ?_
    intro w8 hN8 hg8 hs8
    refine ⟨⟨RowAt.grown S7.1 hg8 (by simp; omega), RowAt.grown S7.2 hg8 (by simp)⟩, ?_⟩
    refine wpAnyH_done (by kernel_rfl) ?_ _
    refine NoPanic.normal ?_
    go_wp2
    refine bodyPost_ret (v := .agg (wholeC G i r)) (res_whole Try.results25 _ _ (w.heap.size + 1 + 1) _ _ _ rfl hN8 hr) rfl ⟨i, r, by rw [HG.out], HR7.out, ?_⟩
    exact hB7.grown hg8 (by have := hB7.size; omega) (by intro k hk; cases hk; omega)
end Go.Proofs.Yteihephciiifbaa

/-
  What compare of impl's fractions and impl.CompareNum answer.
-/
namespace Go.Proofs.Yteihephciiifbaa
open Go.RowKit
set_option linter.unusedVariables false

theorem sgn_of {Z : Int} {i : Nat} {r : List Int} (h : Rep Z.natAbs i r) : sgn (decide (Z < 0)) i = sgnZ Z := by
  have hz := h.zero_iff
  unfold sgn sgnZ
  by_cases e : i = 0
  · rw [if_pos e, if_pos (by have := hz.1 e; omega)]
  · have e2 : ¬ Z = 0 := fun e' => e (hz.2 (by omega))
    rw [if_neg e, if_neg e2]
    by_cases hn : Z < 0
    · rw [decide_eq_true hn, if_pos rfl, if_pos hn]
    · rw [decide_eq_false hn, if_neg (by decide), if_neg hn]

set_option maxHeartbeats 1000000 in
set_option maxRecDepth 100000 in
theorem compareN_any {n m k j n' m' k' j' : Nat} {p q p' q' : List Int} (g g' : Bool) (w : World) (hP : Rep n k p) (hQ : Rep m j q) (hP' : Rep n' k' p') (hQ' : Rep m' j' q') (hk : k ≤ 100) (hj : j ≤ 100) (hk' : k' ≤ 100) (hj' : j' ≤ 100) (h0 : g = true → n ≠ 0) (h1' : m' ≠ 0) :
    Calls Try.prog 13 #[.agg (numC g k p j q), .agg (numC g' k' p' j' q')] w fun e w' => e = .returned (.int .i64 (sgnZ (topZ g n m (!g') n' m'))) ∧ Below w.heap.size w w' := by
  have hp := hP.len
  have hq := hQ.len
  have hp' := hP'.len
  have hq' := hQ'.len
  have A : NumAt ((w.alloc (.cells (numC g k p j q) 34)).alloc (.cells (numC g' k' p' j' q') 34)) w.heap.size g k p j q := RowAt.old (NumAt.new w g k p j q) _
  have B : NumAt ((w.alloc (.cells (numC g k p j q) 34)).alloc (.cells (numC g' k' p' j' q') 34)) (w.heap.size + 1) g' k' p' j' q' := by
    have := NumAt.new (w.alloc (.cells (numC g k p j q) 34)) g' k' p' j' q'
    simp only [World.size_alloc] at this; exact this
  have hB : Below w.heap.size w ((w.alloc (.cells (numC g k p j q) 34)).alloc (.cells (numC g' k' p' j' q') 34)) := ((Below.refl _ _).alloc (Nat.le_refl _) _).alloc (by simp) _
  obtain ⟨W, hWd⟩ : ∃ W, W = ((w.alloc (.cells (numC g k p j q) 34)).alloc (.cells (numC g' k' p' j' q') 34)) := ⟨_, rfl⟩
  have hWs : W.heap.size = w.heap.size + 1 + 1 := by rw [hWd]; simp
  have HP := hide (And.intro hP hQ)
  have HP' := hide (And.intro hP' hQ')
  have H0 := hide (And.intro h0 h1')
  clear hP hQ hP' hQ' h0 h1'
  go_enter Try.func13, Try.ntmps13
  go_wp2_with fail
  rw [← hWd] at A B hB ⊢
  clear hWd
  refine held_begin (fun w' => NumAt w' w.heap.size g k p j q ∧ NumAt w' (w.heap.size + 1) g' k' p' j' q') (by kernel_rfl) ?_
  have hS : NumAt W.drew w.heap.size g k p j q ∧ NumAt W.drew (w.heap.size + 1) g' k' p' j' q' := ⟨A, B⟩
  refine held_load_num 0 (some 5) rfl rfl (by kernel_rfl) (by kernel_rfl) (by kernel_rfl) noPanic_put rfl _ rfl w.heap.size rfl g k p j q (fun _ h => h.1) hp hq hS ?_
  simp only [Act.put, List.setIfInBounds_toArray, List.set_cons_zero, List.set_cons_succ]
  refine held_load_num 1 (some 6) rfl rfl (by kernel_rfl) (by kernel_rfl) (by kernel_rfl) noPanic_put rfl _ rfl (w.heap.size + 1) rfl g' k' p' j' q' (fun _ h => h.2) hp' hq' hS ?_
  simp only [Act.put, List.setIfInBounds_toArray, List.set_cons_zero, List.set_cons_succ]
  refine held_call 2 (some 7) (by kernel_rfl) rfl rfl rfl 26 #[.agg (numC g' k' p' j' q')] (by go_simp) _ (negated_any g' W.drew hp' hq') ?_
  rintro e w5 ⟨rfl, hW5⟩
  have hW5 : Below W.heap.size W w5 := ⟨hW5.os, hW5.tape, hW5.output, hW5.size, hW5.block⟩
  have hs5 := hW5.size
  have S5 : NumAt w5 w.heap.size g k p j q ∧ NumAt w5 (w.heap.size + 1) g' k' p' j' q' := ⟨RowAt.below A hW5 (by omega), RowAt.below B hW5 (by omega)⟩
  have hB5 : Below w.heap.size w w5 := hB.trans (hW5.mono hB.size)
  obtain ⟨v, hv⟩ : ∃ v, v = (!g' && decide (0 < k')) := ⟨_, rfl⟩
  rw [← hv]
  have HV : Hid (topZ g n m v n' m' = topZ g n m (!g') n' m') := by
    have h1 : v = (!g' && decide (n' ≠ 0)) := by
      rw [hv]
      congr 1
      have := HP'.out.1.zero_iff
      by_cases e : k' = 0
      · rw [decide_eq_false (by omega), decide_eq_false (by simpa using this.1 e)]
      · rw [decide_eq_true (by omega), decide_eq_true (show n' ≠ 0 from fun e' => e (this.2 e'))]
    unfold Hid topZ
    rw [h1, sg_turn]
  clear A B hB hS hW5 hv
  refine ⟨_, rfl, S5, ?_⟩
  simp only [Act.put, List.setIfInBounds_toArray, List.set_cons_zero, List.set_cons_succ]
  refine held_call 3 (some 8) (by kernel_rfl) rfl rfl rfl 25 #[.agg (numC g k p j q), .agg (numC v k' p' j' q')] (by go_simp) _ (sumTop_any g v w5 HP.out.1 HP.out.2 HP'.out.1 HP'.out.2 hk hj hk' hj' H0.out.1 H0.out.2) ?_
  rintro e w6 ⟨i, r, rfl, hR, hW6⟩
  rw [HV.out] at hR ⊢
  have HR := hide hR
  have hs6 := hW6.size
  have S6 : NumAt w6 w.heap.size g k p j q ∧ NumAt w6 (w.heap.size + 1) g' k' p' j' q' := ⟨RowAt.below S5.1 hW6 (by omega), RowAt.below S5.2 hW6 (by omega)⟩
  have hB6 : Below w.heap.size w w6 := hB5.trans (hW6.mono hB5.size)
  obtain ⟨G, hG⟩ : ∃ G, G = decide (topZ g n m (!g') n' m' < 0) := ⟨_, rfl⟩
  rw [← hG]
  have HG := hide hG
  clear S5 hB5 hW6 hR hG
  refine ⟨_, rfl, S6, ?_⟩
  simp only [Act.put, List.setIfInBounds_toArray, List.set_cons_zero, List.set_cons_succ]
  refine held_call 4 (some 9) (by kernel_rfl) rfl rfl rfl 27 #[.agg (wholeC G i r)] (by go_simp) _ (sign_any G w6) ?_
  rintro e w7 ⟨rfl, hW7⟩
  have hs7 := hW7.size
  have S7 : NumAt w7 w.heap.size g k p j q ∧ NumAt w7 (w.heap.size + 1) g' k' p' j' q' := ⟨RowAt.below S6.1 hW7 (by omega), RowAt.below S6.2 hW7 (by omega)⟩
  have hB7 : Below w.heap.size w w7 := hB6.trans (hW7.mono hB6.size)
  have HZ : Hid (sgn G i = sgnZ (topZ g n m (!g') n' m')) := by unfold Hid; rw [HG.out]; exact sgn_of HR.out
  obtain ⟨c, hc⟩ : ∃ c, c = sgn G i := ⟨_, rfl⟩
  rw [← hc] at HZ ⊢
  clear S6 hB6 hW7 hc
  refine ⟨_, rfl, S7, ?_⟩
  simp only [Act.put, List.setIfInBounds_toArray, List.set_cons_zero, List.set_cons_succ]
  refine held_assign 5 (some 4) (by kernel_rfl) rfl rfl _ rfl rfl (.int .i64 c) rfl S7 ?_
  simp only [Act.put, List.setIfInBounds_toArray, List.set_cons_zero, List.set_cons_succ]
  refine wpAnyH_done (by kernel_rfl) ?_ _
  refine NoPanic.normal ?_
  go_wp2
  go_ret
  exact ⟨by rw [← HZ.out]; rfl, hB7⟩

set_option maxHeartbeats 1000000 in
set_option maxRecDepth 100000 in
theorem implCmpNum_any (a b : ByteArray) (w : World) (hsa : a.size ≤ maxLen) (hsb : b.size ≤ maxLen) :
    Calls Try.prog 8 #[.string a, .string b] w fun e w' => CmpNAns a b e ∧ Below w.heap.size w w' := by
  have hz := zero_num.1
  go_enter Try.func8, Try.ntmps8
  go_wp2_with fail
  refine (readNums_any a b _ hsa hsb).mono ?_
  rintro e w1 ⟨g, g', k, j, k', j', p, q, p', q', rfl, ⟨hp, hq, hRa⟩, ⟨hp', hq', hRb⟩, hW1⟩
  have hs1 := hW1.size
  have A : NumAt ((w1.alloc (.cells (numC false 0 zP 0 zP) 34)).alloc (.cells (numC false 0 zP 0 zP) 34)) w1.heap.size false 0 zP 0 zP := RowAt.old (NumAt.new w1 false 0 zP 0 zP) _
  have B : NumAt ((w1.alloc (.cells (numC false 0 zP 0 zP) 34)).alloc (.cells (numC false 0 zP 0 zP) 34)) (w1.heap.size + 1) false 0 zP 0 zP := by
    have := NumAt.new (w1.alloc (.cells (numC false 0 zP 0 zP) 34)) false 0 zP 0 zP
    simp only [World.size_alloc] at this; exact this
  have hB : Below w.heap.size w ((w1.alloc (.cells (numC false 0 zP 0 zP) 34)).alloc (.cells (numC false 0 zP 0 zP) 34)) := (hW1.alloc (by omega) _).alloc (by simp; omega) _
  cases hok : (okN a.data.toList && okN b.data.toList) with
  | true =>
    obtain ⟨ha, hb⟩ : okN a.data.toList = true ∧ okN b.data.toList = true := by simpa using hok
    obtain ⟨hg, ra, rb, hk, hj, hj0⟩ := hRa ha
    obtain ⟨hg', ra', rb', hk', hj', hj0'⟩ := hRb hb
    have RA := hide (And.intro ra rb)
    have RB := hide (And.intro ra' rb')
    have HG := hide (And.intro hg hg')
    have HK := hide hok
    have H0 : Hid ((g = true → topN a.data.toList ≠ 0) ∧ botN b.data.toList ≠ 0) := ⟨fun h => okN_neg' ha (by rw [← hg]; exact h), okN_bot' hb⟩
    clear ha hb hg hg' ra rb ra' rb' hRa hRb hok
    go_wp2_with (first | (refine store_num rfl _ _ rfl rfl w1.heap.size g k p j q rfl rfl false 0 zP 0 zP A zP_len zP_len hp hq ?_; intro w2 hN2 hg2 hs2) | (refine store_num rfl _ _ rfl rfl (w1.heap.size + 1) g' k' p' j' q' rfl rfl false 0 zP 0 zP (RowAt.grown B hg2 (by simp)) zP_len zP_len hp' hq' ?_; intro w3 hN3 hg3 hs3) | (refine load_num rfl _ rfl w1.heap.size rfl g k p j q (RowAt.grown hN2 hg3 (by simp)) hp hq ?_) | (refine load_num rfl _ rfl (w1.heap.size + 1) rfl g' k' p' j' q' hN3 hp' hq' ?_))
    have hB3 : Below w.heap.size w w3 := (hB.grown hg2 (by simp; omega) (by intro k hk; cases hk; omega)).grown hg3 (by rw [hs2]; simp; omega) (by intro k hk; cases hk; omega)
    clear A B hB hN2 hg2 hs2 hN3 hg3 hs3
    refine (compareN_any g g' w3 RA.out.1 RA.out.2 RB.out.1 RB.out.2 hk hj hk' hj' H0.out.1 H0.out.2).mono ?_
    rintro e w4 ⟨rfl, hW4⟩
    have hB4 : Below w.heap.size w w4 := hB3.trans (hW4.mono hB3.size)
    have hZ : topZ g (topN a.data.toList) (botN a.data.toList) (!g') (topN b.data.toList) (botN b.data.toList) = addZ true a b := by
      unfold addZ; rw [HG.out.1, HG.out.2]; cases negN b.data.toList <;> rfl
    rw [hZ]
    have HI : Hid (CmpNAns a b (.returned (.tuple #[.int .i64 (sgnZ (addZ true a b)), .bool true]))) := .inl ⟨HK.out, rfl⟩
    obtain ⟨c, hc⟩ : ∃ c, c = sgnZ (addZ true a b) := ⟨_, rfl⟩
    rw [← hc] at HI ⊢
    clear hc hZ hB3 hW4
    go_wp2
    go_ret2
    exact ⟨HI.out, hB4⟩
  | false =>
    have HI : Hid (CmpNAns a b (.returned (.tuple #[.int .i64 0, .bool false]))) := .inr ⟨hok, rfl⟩
    clear hok hRa hRb
    go_wp2_with (first | (refine store_num rfl _ _ rfl rfl w1.heap.size g k p j q rfl rfl false 0 zP 0 zP A zP_len zP_len hp hq ?_; intro w2 hN2 hg2 hs2) | (refine store_num rfl _ _ rfl rfl (w1.heap.size + 1) g' k' p' j' q' rfl rfl false 0 zP 0 zP (RowAt.grown B hg2 (by simp)) zP_len zP_len hp' hq' ?_; intro w3 hN3 hg3 hs3))
    go_ret2
    exact ⟨HI.out, (hB.grown hg2 (by simp; omega) (by intro k hk; cases hk; omega)).grown hg3 (by rw [hs2]; simp; omega) (by intro k hk; cases hk; omega)⟩
end Go.Proofs.Yteihephciiifbaa
