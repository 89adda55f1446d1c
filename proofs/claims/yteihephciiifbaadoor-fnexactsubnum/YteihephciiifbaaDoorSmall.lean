/-
  Small fractions of impl: isSmall, asComplex, smallWhole; the top of a sum by complex numbers.
-/
import Derived.Test.YteihephciiifbaaDoorNumTimes
import Derived.Test.YteihephciiifbaaDoorIsOne
import Derived.Test.YteihephciiifbaaDoorFlt
import Derived.WalkLawsBesides
namespace Go.Proofs.YteihephciiifbaaDoor
open Go.RowKit
set_option linter.unusedVariables false

theorem NumAt.part0 {w : World} {b : Nat} {g : Bool} {u : Int} {p : List Int} {v : Int} {q : List Int} (h : NumAt w b g u p v q) (hp : p.length = 204) : w.cell? ⟨b, 2, none⟩ = some (.int .i64 (p.getD 0 0)) := by
  rw [cell_of_row w b 2 _ _ _ h]
  cases p with
  | nil => simp at hp
  | cons x p => simp [numC, natL]
theorem NumAt.bpart0 {w : World} {b : Nat} {g : Bool} {u : Int} {p : List Int} {v : Int} {q : List Int} (h : NumAt w b g u p v q) (hp : p.length = 204) (hq : q.length = 204) : w.cell? ⟨b, 207, none⟩ = some (.int .i64 (q.getD 0 0)) := by
  rw [cell_of_row w b 207 _ _ _ h, num_split2]
  simp only [List.getElem?_toArray, List.append_assoc]
  rw [List.getElem?_append_right (by simp [natL_len, hp])]
  cases q with
  | nil => simp at hq
  | cons x q => simp [hp, natL]

theorem Rep.little {n k : Nat} {p : List Int} (h : Rep n k p) (hk : k ≤ 1) : p.getD 0 0 = (n : Int) ∧ n < 1000000 := by
  have hp := h.len
  have hv := h.val
  rw [vb_split 1000000 p 1 (by omega), vb_zero _ (p.drop 1) (fun i => by rw [getD_drop]; exact h.out _ (by omega))] at hv
  have ht : p.take 1 = [p.getD 0 0] := by
    cases p with
    | nil => simp at hp
    | cons x p => simp
  rw [ht] at hv
  simp only [vb, Int.mul_zero, Int.add_zero] at hv
  have := h.hi 0
  omega

set_option maxHeartbeats 400000 in
theorem isSmall_any {k j : Nat} {p q : List Int} (g : Bool) (w : World) (hp : p.length = 204) :
    Calls Tryd.prog 93 #[.agg (numC g k p j q)] w fun e w' => e = .returned (.bool (decide (k ≤ 1) && decide (j ≤ 1))) ∧ Below w.heap.size w w' := by
  have A := NumAt.new w g k p j q
  have hB : Below w.heap.size w (w.alloc (.cells (numC g k p j q) 42)) := (Below.refl _ _).alloc (Nat.le_refl _) _
  have c1 := A.used
  have c2 := A.bused hp
  by_cases hk : (k : Int) ≤ 1
  · by_cases hj : (j : Int) ≤ 1
    · rw [decide_eq_true (show k ≤ 1 by omega), decide_eq_true (show j ≤ 1 by omega)]
      go_enter Tryd.func93, Tryd.ntmps93
      go_wp2
      go_ret
      exact ⟨rfl, hB⟩
    · rw [decide_eq_true (show k ≤ 1 by omega), decide_eq_false (show ¬ j ≤ 1 by omega)]
      go_enter Tryd.func93, Tryd.ntmps93
      go_wp2
      go_ret
      exact ⟨rfl, hB⟩
  · rw [decide_eq_false (show ¬ k ≤ 1 by omega)]
    go_enter Tryd.func93, Tryd.ntmps93
    go_wp2
    go_ret
    exact ⟨rfl, hB⟩

set_option maxHeartbeats 400000 in
theorem asComplex_any {n m k j : Nat} {p q : List Int} (g : Bool) (w : World) (hP : Rep n k p) (hQ : Rep m j q) (hk : k ≤ 1) (hj : j ≤ 1) :
    Calls Tryd.prog 95 #[.agg (numC g k p j q)] w fun e w' => ∃ x y : Nat, e = .returned (.complex .f64 x y) ∧ F64 x (m : Int) ∧ F64 y (sg g n) ∧ Below w.heap.size w w' := by
  have A := NumAt.new w g k p j q
  have hB : Below w.heap.size w (w.alloc (.cells (numC g k p j q) 42)) := (Below.refl _ _).alloc (Nat.le_refl _) _
  have c0 := A.neg
  have c1 := A.part0 hP.len
  have c2 := A.bpart0 hP.len hQ.len
  obtain ⟨e1, h1⟩ := hP.little hk
  obtain ⟨e2, h2⟩ := hQ.little hj
  rw [e1] at c1
  rw [e2] at c2
  have HF := hide (And.intro (F64.ofNat n (by omega)) (F64.ofNat m (by omega)))
  clear e1 e2 h1 h2 hP hQ
  have hneg : ∀ (x : Nat) (w : World), Sem.run Tryd.prog (Op.unary UnOp.neg (Value.float FloatKind.f64 x)) w = Result.ok (.float .f64 (Op.negFloat .f64 x)) w := fun _ _ => rfl
  cases g with
  | true =>
    go_enter Tryd.func95, Tryd.ntmps95
    go_wp2
    go_ret
    exact ⟨_, _, rfl, HF.out.2.1, HF.out.1.2, hB⟩
  | false =>
    go_enter Tryd.func95, Tryd.ntmps95
    go_wp2
    go_ret
    exact ⟨_, _, rfl, HF.out.2.1, HF.out.1.1, hB⟩

set_option maxHeartbeats 1000000 in
set_option maxRecDepth 100000 in
theorem smallWhole_any (z : Int) (w : World) (h1 : -400000000000000 ≤ z) (h2 : z ≤ 400000000000000) :
    Calls Tryd.prog 94 #[.int .i64 z] w fun e w' => ∃ (i : Nat) (r : List Int), e = .returned (.agg (wholeC (decide (z < 0)) i r)) ∧ Rep z.natAbs i r ∧ Below w.heap.size w w' := by
  have hz1 := zero_whole.1
  have C := WholeAt.new w false 0 zP
  have hB : Below w.heap.size w (w.alloc (.cells (wholeC false 0 zP) 40)) := (Below.refl _ _).alloc (Nat.le_refl _) _
  by_cases hz : z < 0
  · rw [decide_eq_true hz]
    go_enter Tryd.func94, Tryd.ntmps94
    go_wp2_with fail
    refine (natOf_any z.natAbs (-z) _ (by omega) (by omega) (by omega)).mono ?_
    rintro e w1 ⟨i, r, rfl, hR, hW1⟩
    have hr := hR.len
    have HR := hide hR
    have C1 : WholeAt w1 w.heap.size false 0 zP := RowAt.below C hW1 (by simp)
    have hB1 : Below w.heap.size w w1 := hB.trans (hW1.mono (by simp))
    clear hR C hB hW1
    go_wp2_with (first | (refine build_whole rfl _ _ rfl _ rfl true i r hr rfl rfl ?_) | (refine store_whole rfl _ _ rfl rfl w.heap.size true i r rfl rfl false 0 zP C1 zP_len hr ?_; intro w2 hN2 hg2 hs2))
    refine bodyPost_ret (v := .agg (wholeC true i r)) (res_whole Tryd.results94 _ _ w.heap.size _ _ _ rfl hN2 hr) rfl ⟨i, r, rfl, HR.out, ?_⟩
    exact hB1.grown hg2 (by have := hB1.size; omega) (by intro k hk; cases hk; omega)
  · rw [decide_eq_false hz]
    go_enter Tryd.func94, Tryd.ntmps94
    go_wp2_with fail
    refine (natOf_any z.natAbs z _ (by omega) (by omega) (by omega)).mono ?_
    rintro e w1 ⟨i, r, rfl, hR, hW1⟩
    have hr := hR.len
    have HR := hide hR
    have C1 : WholeAt w1 w.heap.size false 0 zP := RowAt.below C hW1 (by simp)
    have hB1 : Below w.heap.size w w1 := hB.trans (hW1.mono (by simp))
    clear hR C hB hW1
    go_wp2_with (first | (refine build_whole rfl _ _ rfl _ rfl false i r hr rfl rfl ?_) | (refine store_whole rfl _ _ rfl rfl w.heap.size false i r rfl rfl false 0 zP C1 zP_len hr ?_; intro w2 hN2 hg2 hs2))
    refine bodyPost_ret (v := .agg (wholeC false i r)) (res_whole Tryd.results94 _ _ w.heap.size _ _ _ rfl hN2 hr) rfl ⟨i, r, rfl, HR.out, ?_⟩
    exact hB1.grown hg2 (by have := hB1.size; omega) (by intro k hk; cases hk; omega)
end Go.Proofs.YteihephciiifbaaDoor
