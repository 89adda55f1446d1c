/-
  What guess of impl's nats answers.
-/
import Derived.Test.YtjgpjafndaikcaaDoorDivMath
import Derived.Test.YtjgpjafndaikcaaDoorPlus
namespace Go.Proofs.YtjgpjafndaikcaaDoor
open Go.RowKit
set_option linter.unusedVariables false

set_option maxHeartbeats 1000000 in
set_option maxRecDepth 100000 in
theorem guess_any {c kc m j : Nat} {pc q : List Int} (t : Nat) (w : World) (hC : Rep c kc pc) (hM : Rep m j q) (hj : 2 ≤ j) (hT : t + j < 204) :
    Calls Tryd.prog 50 #[.agg (natC kc pc), .agg (natC j q), .int .i64 (t : Int)] w fun e w' =>
      e = .returned (.int .i64 (((pc.getD (t + j) 0 * 1000000 + pc.getD (t + j - 1) 0) * 1000000 + pc.getD (t + j - 2) 0) / (q.getD (j - 1) 0 * 1000000 + q.getD (j - 2) 0))) ∧ Below w.heap.size w w' := by
  have hp := hC.len
  have hq := hM.len
  have A := (NatAt.new w kc pc).old (.cells (natC j q) 35)
  have B := NatAt.new (w.alloc (.cells (natC kc pc) 35)) j q
  have hB : Below w.heap.size w ((w.alloc (.cells (natC kc pc) 35)).alloc (.cells (natC j q) 35)) := ((Below.refl _ _).alloc (Nat.le_refl _) _).alloc (by simp) _
  simp only [World.size_alloc] at B
  obtain ⟨T, hT0⟩ : ∃ T, T = t + j := ⟨_, rfl⟩
  obtain ⟨T1, hT1⟩ : ∃ T, T = t + j - 1 := ⟨_, rfl⟩
  obtain ⟨T2, hT2⟩ : ∃ T, T = t + j - 2 := ⟨_, rfl⟩
  obtain ⟨j1, hj1⟩ : ∃ T, T = j - 1 := ⟨_, rfl⟩
  obtain ⟨j2, hj2⟩ : ∃ T, T = j - 2 := ⟨_, rfl⟩
  rw [← hT1, ← hT2, ← hT0, ← hj1, ← hj2]
  have b0 := B.c0
  have a0 := A.cs T (by omega)
  have a1 := A.cs T1 (by omega)
  have a2 := A.cs T2 (by omega)
  have b1 := B.cs j1 (by omega)
  have b2 := B.cs j2 (by omega)
  obtain ⟨x0, hx0⟩ : ∃ x, x = pc.getD T 0 := ⟨_, rfl⟩
  obtain ⟨x1, hx1⟩ : ∃ x, x = pc.getD T1 0 := ⟨_, rfl⟩
  obtain ⟨x2, hx2⟩ : ∃ x, x = pc.getD T2 0 := ⟨_, rfl⟩
  obtain ⟨y1, hy1⟩ : ∃ x, x = q.getD j1 0 := ⟨_, rfl⟩
  obtain ⟨y2, hy2⟩ : ∃ x, x = q.getD j2 0 := ⟨_, rfl⟩
  have g0 : 0 ≤ x0 ∧ x0 < 1000000 := by rw [hx0]; exact ⟨hC.lo _, hC.hi _⟩
  have g1 : 0 ≤ x1 ∧ x1 < 1000000 := by rw [hx1]; exact ⟨hC.lo _, hC.hi _⟩
  have g2 : 0 ≤ x2 ∧ x2 < 1000000 := by rw [hx2]; exact ⟨hC.lo _, hC.hi _⟩
  have g3 : 0 < y1 ∧ y1 < 1000000 := by
    rw [hy1]
    have h1 := hM.top (by omega)
    have h2 := hM.lo j1
    rw [← hj1] at h1
    exact ⟨by omega, hM.hi _⟩
  have g4 : 0 ≤ y2 ∧ y2 < 1000000 := by rw [hy2]; exact ⟨hM.lo _, hM.hi _⟩
  rw [← hx0] at a0
  rw [← hx1] at a1
  rw [← hx2] at a2
  rw [← hy1] at b1
  rw [← hy2] at b2
  rw [← hx0, ← hx1, ← hx2, ← hy1, ← hy2]
  obtain ⟨g00, g01⟩ := g0
  obtain ⟨g10, g11⟩ := g1
  obtain ⟨g20, g21⟩ := g2
  obtain ⟨g30, g31⟩ := g3
  obtain ⟨g40, g41⟩ := g4
  have hw0 : IntKind.i64.wrap ((t : Int) + (j : Int)) = (T : Int) := by rw [IntKind.wrap_i64]; omega
  have hw1 : IntKind.i64.wrap ((T : Int) - 1) = (T1 : Int) := by rw [IntKind.wrap_i64]; omega
  have hw2 : IntKind.i64.wrap ((T : Int) - 2) = (T2 : Int) := by rw [IntKind.wrap_i64]; omega
  have hw3 : IntKind.i64.wrap ((j : Int) - 1) = (j1 : Int) := by rw [IntKind.wrap_i64]; omega
  have hw4 : IntKind.i64.wrap ((j : Int) - 2) = (j2 : Int) := by rw [IntKind.wrap_i64]; omega
  have k0 : (T : Int) < 204 := by omega
  have k1 : (T1 : Int) < 204 := by omega
  have k2 : (T2 : Int) < 204 := by omega
  have k3 : (j1 : Int) < 204 := by omega
  have k4 : (j2 : Int) < 204 := by omega
  clear hx0 hx1 hx2 hy1 hy2 hC hM A B hT hT0 hT1 hT2 hj1 hj2 hj hp hq
  go_enter Tryd.func50, Tryd.ntmps50
  go_wp2_with fail
  try simp only [hw0]
  generalize hWW : (w.alloc (.cells (natC kc pc) 35)).alloc (.cells (natC j q) 35) = W at a0 a1 a2 b0 b1 b2 hB ⊢
  clear hWW
  refine wp_region_still_tail 18 (by kernel_rfl) (by kernel_rfl) ?_
  simp only [List.take_succ_cons, List.take_zero, List.drop_succ_cons, List.drop_zero]
  repeat (first | still_step | simp only [hw1, hw2])
  refine wpStill_nil ?_
  go_wp2_with fail
  have hF : IntKind.i64.wrap (IntKind.i64.wrap (IntKind.i64.wrap (IntKind.i64.wrap (x0 * 1000000) + x1) * 1000000) + x2) = (x0 * 1000000 + x1) * 1000000 + x2 := by
    simp only [IntKind.wrap_i64]; omega
  obtain ⟨F, hF'⟩ : ∃ F, F = (x0 * 1000000 + x1) * 1000000 + x2 := ⟨_, rfl⟩
  have hF0 : 0 ≤ F := by omega
  have hF1 : F < 1000000000000000000 := by omega
  rw [← hF'] at hF
  simp only [hF]
  obtain ⟨W2, hW2⟩ : ∃ W2, W2 = W.drew := ⟨_, rfl⟩
  have b0' : W2.cell? ⟨w.heap.size + 1, 0, none⟩ = some (.int .i64 (j : Int)) := by rw [hW2]; exact b0
  have b1' : W2.cell? ⟨w.heap.size + 1, 1 + j1, none⟩ = some (.int .i64 y1) := by rw [hW2]; exact b1
  have b2' : W2.cell? ⟨w.heap.size + 1, 1 + j2, none⟩ = some (.int .i64 y2) := by rw [hW2]; exact b2
  have hB' : Below w.heap.size w W2 := by rw [hW2]; exact hB.drew
  have hWe : ({ heap := W.heap, tape := W.tape, drawn := W.drawn + 1, os := W.os, output := W.output } : World) = W2 := by rw [hW2]; rfl
  rw [hWe]
  have HF' := hide hF'
  obtain ⟨D, hD'⟩ : ∃ D, D = y1 * 1000000 + y2 := ⟨_, rfl⟩
  have hDD : IntKind.i64.wrap (IntKind.i64.wrap (y1 * 1000000) + y2) = D := by simp only [IntKind.wrap_i64]; omega
  have hD0 : 0 < D := by omega
  have HD' := hide hD'
  clear hD'
  clear a0 a1 a2 b0 b1 b2 hw0 hw1 hw2 hF hF' hW2 hB hWe
  refine wp_region_still_tail 16 (by kernel_rfl) (by kernel_rfl) ?_
  simp only [List.take_succ_cons, List.take_zero, List.drop_succ_cons, List.drop_zero]
  repeat (first | still_step | simp only [hw3, hw4])
  refine wpStill_step (fun K hK => ?_)
  have hD1 : (D == 0) = false := by simp; omega
  have hq := IntWalk.i64_quo F D ⟨hF0, by omega, by omega⟩
  go_simp
  rw [if_neg (show ¬ D = 0 by omega)]
  refine ⟨rfl, hK _ ?_⟩
  clear hK K hq
  refine wpStill_nil ?_
  go_wp2
  go_ret
  exact ⟨by rw [← HF'.out, ← HD'.out]; rfl, hB'.drew⟩
end Go.Proofs.YtjgpjafndaikcaaDoor
