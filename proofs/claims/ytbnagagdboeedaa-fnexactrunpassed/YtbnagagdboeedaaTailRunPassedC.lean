/-
  The texts ReduceA, HeldGuard, Stack, SpecStep, ImplRedB, SpecRed, ReduceT, DevelopA, one behind the other, as one.
-/
import Derived.Test.YtbnagagdboeedaaTailRunPassedB
import Derived.Test.YtbnagagdboeedaaSpecSubst
import Derived.Test.YtbnagagdboeedaaBaseHeld
import Derived.Test.YtbnagagdboeedaaTailRunPassedA
import Derived.Test.YtbnagagdboeedaaImplRed
import Derived.Maps.OwnIn
import Derived.Test.YtbnagagdboeedaaSpecGoodT

/-
  What reduced of the program, lcBeta and lcAt of the model make.
-/
namespace Go.Proofs.Ytbnagagdboeedaa
open Go.RowKit BL
set_option linter.unusedVariables false

theorem isRed_form {t : Lm} (h : t.isRed = true) : ∃ body arg, t = .app (.lam body) arg := by
  cases t with
  | var n => cases h
  | lam t => cases h
  | app s a => cases s with
    | var n => cases h
    | app p q => cases h
    | lam body => exact ⟨body, a, rfl⟩
set_option maxHeartbeats 4000000 in
set_option maxRecDepth 100000 in
theorem reduced_any : ChgOk 67 Lm.isRed Lm.beta 400 := by
  intro t b P w hT hred hsz hbd
  obtain ⟨body, arg, rfl⟩ := isRed_form hred
  obtain ⟨_, u, g, c, b1, b2, hRb, hg, g0, g1, hT1, hT2⟩ := hT
  obtain ⟨_, u1, h1, c1, b3, hRb1, hh, h0, hT3⟩ := hT1
  have k3 : w.cell? ⟨b, 3, none⟩ = some (.slice (some ⟨g, 0, none⟩) 2 c) := by rw [cell_of_row _ _ _ _ _ _ hRb]; rfl
  have l3 : w.cell? ⟨b1, 3, none⟩ = some (.slice (some ⟨h1, 0, none⟩) 1 c1) := by rw [cell_of_row _ _ _ _ _ _ hRb1]; rfl
  have hbl := hRb.lt
  have hb1l := hRb1.lt
  have hgl := hg.1
  have hhl := hh.1
  simp only [Lm.sz] at hsz
  have HC : Hid (∀ w', Below w.heap.size w w' → Calls Try.prog 106 #[.pointer (some ⟨b3, 0, none⟩), .int .i64 0, .pointer (some ⟨b2, 0, none⟩)] w' fun e w'' => (∃ b', e = .returned (.pointer (some ⟨b', 0, none⟩)) ∧ TrIn w'' (fun x => P x ∨ w'.heap.size ≤ x) (body.sub 0 arg 0) b') ∧ Below w'.heap.size w' w'') := by
    intro w' hB'
    exact substituted_in body b3 0 arg b2 P w' (TrIn.below hB' hT3) (TrIn.below hB' hT2) (by omega) (by omega) hbd.1 hbd.2 ⟨by omega, by omega⟩
  clear hRb hRb1 hT2 hT3 hbd hred hg hh
  go_enter Try.func67, Try.ntmps67
  go_wp2_with fail
  refine held_begin (fun w' => ∀ x, x < w.heap.size → w'.heap[x]? = w.heap[x]?) (by kernel_rfl) ?_
  have hS : ∀ x, x < w.heap.size → w.drew.heap[x]? = w.heap[x]? := fun _ _ => rfl
  refine held_valS 0 (some 3) rfl rfl (by kernel_rfl) (by kernel_rfl) (by kernel_rfl) noPanic_put rfl (.pointer (some ⟨b, 0, none⟩)) (fun _ _ => by go_simp) hS ?_
  simp only [Act.put, List.setIfInBounds_toArray, List.set_cons_zero, List.set_cons_succ]
  refine held_valS 1 (some 4) rfl rfl (by kernel_rfl) (by kernel_rfl) (by kernel_rfl) noPanic_put rfl (.pointer (some ⟨b, 0, none⟩)) (fun _ _ => by go_simp) hS ?_
  simp only [Act.put, List.setIfInBounds_toArray, List.set_cons_zero, List.set_cons_succ]
  refine held_valS 2 (some 5) rfl rfl (by kernel_rfl) (by kernel_rfl) (by kernel_rfl) noPanic_put rfl (.pointer (some ⟨b, 3, none⟩)) (fun _ _ => by go_simp) hS ?_
  simp only [Act.put, List.setIfInBounds_toArray, List.set_cons_zero, List.set_cons_succ]
  refine held_valS 3 (some 6) rfl rfl (by kernel_rfl) (by kernel_rfl) (by kernel_rfl) noPanic_put rfl (.slice (some ⟨g, 0, none⟩) 2 c) (fun w' h => by have q := ((World.cell?_of_block (w := w) (a := ⟨b, 3, none⟩) (h (b) (by omega))).trans k3); go_simp) hS ?_
  simp only [Act.put, List.setIfInBounds_toArray, List.set_cons_zero, List.set_cons_succ]
  refine held_valS 4 (some 7) rfl rfl (by kernel_rfl) (by kernel_rfl) (by kernel_rfl) noPanic_put rfl (.pointer (some ⟨g, 0, none⟩)) (fun _ _ => by go_simp) hS ?_
  simp only [Act.put, List.setIfInBounds_toArray, List.set_cons_zero, List.set_cons_succ]
  refine held_valS 5 (some 8) rfl rfl (by kernel_rfl) (by kernel_rfl) (by kernel_rfl) noPanic_put rfl (.pointer (some ⟨b1, 0, none⟩)) (fun w' h => by have q := ((World.cell?_of_block (w := w) (a := ⟨g, 0, none⟩) (h (g) (by omega))).trans g0); go_simp) hS ?_
  simp only [Act.put, List.setIfInBounds_toArray, List.set_cons_zero, List.set_cons_succ]
  refine held_valS 6 (some 9) rfl rfl (by kernel_rfl) (by kernel_rfl) (by kernel_rfl) noPanic_put rfl (.pointer (some ⟨b1, 0, none⟩)) (fun _ _ => by go_simp) hS ?_
  simp only [Act.put, List.setIfInBounds_toArray, List.set_cons_zero, List.set_cons_succ]
  refine held_valS 7 (some 10) rfl rfl (by kernel_rfl) (by kernel_rfl) (by kernel_rfl) noPanic_put rfl (.pointer (some ⟨b1, 3, none⟩)) (fun _ _ => by go_simp) hS ?_
  simp only [Act.put, List.setIfInBounds_toArray, List.set_cons_zero, List.set_cons_succ]
  refine held_valS 8 (some 11) rfl rfl (by kernel_rfl) (by kernel_rfl) (by kernel_rfl) noPanic_put rfl (.slice (some ⟨h1, 0, none⟩) 1 c1) (fun w' h => by have q := ((World.cell?_of_block (w := w) (a := ⟨b1, 3, none⟩) (h (b1) (by omega))).trans l3); go_simp) hS ?_
  simp only [Act.put, List.setIfInBounds_toArray, List.set_cons_zero, List.set_cons_succ]
  refine held_valS 9 (some 12) rfl rfl (by kernel_rfl) (by kernel_rfl) (by kernel_rfl) noPanic_put rfl (.pointer (some ⟨h1, 0, none⟩)) (fun _ _ => by go_simp) hS ?_
  simp only [Act.put, List.setIfInBounds_toArray, List.set_cons_zero, List.set_cons_succ]
  refine held_valS 10 (some 13) rfl rfl (by kernel_rfl) (by kernel_rfl) (by kernel_rfl) noPanic_put rfl (.pointer (some ⟨b3, 0, none⟩)) (fun w' h => by have q := ((World.cell?_of_block (w := w) (a := ⟨h1, 0, none⟩) (h (h1) (by omega))).trans h0); go_simp) hS ?_
  simp only [Act.put, List.setIfInBounds_toArray, List.set_cons_zero, List.set_cons_succ]
  refine held_valS 11 (some 14) rfl rfl (by kernel_rfl) (by kernel_rfl) (by kernel_rfl) noPanic_put rfl (.pointer (some ⟨b, 0, none⟩)) (fun _ _ => by go_simp) hS ?_
  simp only [Act.put, List.setIfInBounds_toArray, List.set_cons_zero, List.set_cons_succ]
  refine held_valS 12 (some 15) rfl rfl (by kernel_rfl) (by kernel_rfl) (by kernel_rfl) noPanic_put rfl (.pointer (some ⟨b, 0, none⟩)) (fun _ _ => by go_simp) hS ?_
  simp only [Act.put, List.setIfInBounds_toArray, List.set_cons_zero, List.set_cons_succ]
  refine held_valS 13 (some 16) rfl rfl (by kernel_rfl) (by kernel_rfl) (by kernel_rfl) noPanic_put rfl (.pointer (some ⟨b, 3, none⟩)) (fun _ _ => by go_simp) hS ?_
  simp only [Act.put, List.setIfInBounds_toArray, List.set_cons_zero, List.set_cons_succ]
  refine held_valS 14 (some 17) rfl rfl (by kernel_rfl) (by kernel_rfl) (by kernel_rfl) noPanic_put rfl (.slice (some ⟨g, 0, none⟩) 2 c) (fun w' h => by have q := ((World.cell?_of_block (w := w) (a := ⟨b, 3, none⟩) (h (b) (by omega))).trans k3); go_simp) hS ?_
  simp only [Act.put, List.setIfInBounds_toArray, List.set_cons_zero, List.set_cons_succ]
  refine held_valS 15 (some 18) rfl rfl (by kernel_rfl) (by kernel_rfl) (by kernel_rfl) noPanic_put rfl (.pointer (some ⟨g, 1, none⟩)) (fun _ _ => by go_simp) hS ?_
  simp only [Act.put, List.setIfInBounds_toArray, List.set_cons_zero, List.set_cons_succ]
  refine held_valS 16 (some 19) rfl rfl (by kernel_rfl) (by kernel_rfl) (by kernel_rfl) noPanic_put rfl (.pointer (some ⟨b2, 0, none⟩)) (fun w' h => by have q := ((World.cell?_of_block (w := w) (a := ⟨g, 1, none⟩) (h (g) (by omega))).trans g1); go_simp) hS ?_
  simp only [Act.put, List.setIfInBounds_toArray, List.set_cons_zero, List.set_cons_succ]
  refine held_call 17 (some 20) (by kernel_rfl) rfl rfl rfl 106 #[.pointer (some ⟨b3, 0, none⟩), .int .i64 0, .pointer (some ⟨b2, 0, none⟩)] (by go_simp) _ (HC.out w.drew (Below.refl _ _).drew) ?_
  rintro e w5 ⟨⟨b5, rfl, hT5⟩, hw5⟩
  have hw5 : Below w.heap.size w w5 := ⟨hw5.os, hw5.tape, hw5.output, hw5.size, hw5.block⟩
  have hT5 : TrIn w5 (fun x => P x ∨ w.heap.size ≤ x) (body.sub 0 arg 0) b5 := hT5
  have hS5 : ∀ x, x < w.heap.size → w5.heap[x]? = w.heap[x]? := fun x hx => hw5.block x hx
  refine ⟨_, rfl, hS5, ?_⟩
  simp only [Act.put, List.setIfInBounds_toArray, List.set_cons_zero, List.set_cons_succ]
  refine held_assign 18 (some 2) (by kernel_rfl) rfl rfl _ rfl rfl (.pointer (some ⟨b5, 0, none⟩)) rfl hS5 ?_
  simp only [Act.put, List.setIfInBounds_toArray, List.set_cons_zero, List.set_cons_succ]
  refine wpAnyH_done (by kernel_rfl) ?_ _
  refine NoPanic.normal ?_
  have HF := hideT' (And.intro hT5 hw5)
  clear hT5 hw5 hS hS5
  go_wp2
  go_ret
  exact ⟨⟨b5, rfl, HF.out.1⟩, HF.out.2⟩
theorem call_reduced : ∀ args w, (callFunc 67 args).run Try.prog w = .ok (.enter 67 args) w := enters_of Try.func67 (by kernel_rfl) rfl
set_option maxHeartbeats 4000000 in
set_option maxRecDepth 100000 in
theorem lcBeta_any (t : Lm) (z : Value) (P : Nat → Prop) (w : World) (hz : LcIn w P t z) (hred : t.isRed = true) (hsz : t.sz ≤ 400) (hbd : t.bd) :
    Calls Try.prog 100 #[.agg (lcC t.kd t.nm z)] w fun e w' => (∃ z', e = .returned (.agg (lcC t.beta.kd t.beta.nm z')) ∧ LcIn w' (fun x => P x ∨ w.heap.size ≤ x) t.beta z') ∧ Below w.heap.size w w' := by
  obtain ⟨body, arg, rfl⟩ := isRed_form hred
  have hz0 := zero_lcT.1
  obtain ⟨g, c, z1, z2, rfl, hg, ⟨g0, g1, g2⟩, ⟨b0, b1, b2⟩, hz1, hz2⟩ := hz
  obtain ⟨h1, c1, z3, rfl, hh, ⟨h00, h10, h20⟩, hz3⟩ := hz1
  obtain ⟨o2, c2, rfl⟩ := hz2.form
  obtain ⟨o3, c3, rfl⟩ := hz3.form
  simp only [Lm.sz] at hsz
  obtain ⟨W, hWd⟩ : ∃ W, W = (w.alloc (.cells #[.int .i64 3, .int .i64 0, .slice (some ⟨g, 0, none⟩) 2 c] 54)).alloc (.cells #[.int .i64 0, .int .i64 0, .slice none 0 0] 54) := ⟨_, rfl⟩
  have hBW : Below w.heap.size w W := by rw [hWd]; exact ((Below.refl _ _).alloc (Nat.le_refl _) _).alloc (by simp) _
  have hWs : w.heap.size + 2 ≤ W.heap.size := by rw [hWd]; simp
  have hR0 : RowAt W w.heap.size 54 #[.int .i64 3, .int .i64 0, .slice (some ⟨g, 0, none⟩) 2 c] := by rw [hWd]; exact RowAt.old (RowAt.new _ _ _) _
  have hR1 : RowAt W (w.heap.size + 1) 54 #[.int .i64 0, .int .i64 0, .slice none 0 0] := by
    rw [hWd]
    have := RowAt.new (w.alloc (.cells #[.int .i64 3, .int .i64 0, .slice (some ⟨g, 0, none⟩) 2 c] 54)) 54 #[.int .i64 0, .int .i64 0, .slice none 0 0]
    rwa [World.size_alloc] at this
  have hgl := hg.1
  have hhl := hh.1
  have t2 : W.cell? ⟨w.heap.size, 2, none⟩ = some (.slice (some ⟨g, 0, none⟩) 2 c) := by rw [cell_of_row _ _ _ _ _ _ hR0]; rfl
  have g2 : W.cell? ⟨g, 2, none⟩ = some (.slice (some ⟨h1, 0, none⟩) 1 c1) := by rw [hBW.cell (p := ⟨g, 2, none⟩) hgl]; exact g2
  have b0 : W.cell? ⟨g, 3, none⟩ = some (.int .i64 arg.kd) := by rw [hBW.cell (p := ⟨g, 3, none⟩) hgl]; exact b0
  have b1 : W.cell? ⟨g, 4, none⟩ = some (.int .i64 arg.nm) := by rw [hBW.cell (p := ⟨g, 4, none⟩) hgl]; exact b1
  have b2 : W.cell? ⟨g, 5, none⟩ = some (.slice o2 arg.kids.length c2) := by rw [hBW.cell (p := ⟨g, 5, none⟩) hgl]; exact b2
  have h00 : W.cell? ⟨h1, 0, none⟩ = some (.int .i64 body.kd) := by rw [hBW.cell (p := ⟨h1, 0, none⟩) hhl]; exact h00
  have h10 : W.cell? ⟨h1, 1, none⟩ = some (.int .i64 body.nm) := by rw [hBW.cell (p := ⟨h1, 1, none⟩) hhl]; exact h10
  have h20 : W.cell? ⟨h1, 2, none⟩ = some (.slice o3 body.kids.length c3) := by rw [hBW.cell (p := ⟨h1, 2, none⟩) hhl]; exact h20
  have HC : Hid (∀ w', Below W.heap.size W w' → Calls Try.prog 129 #[.agg (lcC body.kd body.nm (.slice o3 body.kids.length c3)), .int .i64 0, .agg (lcC arg.kd arg.nm (.slice o2 arg.kids.length c2)), .int .i64 0] w' fun e w'' => (∃ z', e = .returned (.agg (lcC (body.sub 0 arg 0).kd (body.sub 0 arg 0).nm z')) ∧ LcIn w'' (fun x => (P x ∧ x < w.heap.size) ∨ w'.heap.size ≤ x) (body.sub 0 arg 0) z') ∧ Below w'.heap.size w' w'') := by
    intro w' hB'
    have hBB := hBW.trans (hB'.mono hBW.size)
    exact lcSubst_all 0 arg ⟨by omega, by omega⟩ hbd.2 (by omega) body.sz body (Nat.le_refl _) 0 _ _ (fun x => P x ∧ x < w.heap.size) w' (LcIn.keep (w := w) hBB.size (fun x _ hl => hBB.block x hl) (fun x h hl => ⟨h, hl⟩) hz3) (LcIn.keep (w := w) hBB.size (fun x _ hl => hBB.block x hl) (fun x h hl => ⟨h, hl⟩) hz2) hbd.1 (by omega)
  have HBW := hideT' hBW
  clear hz2 hz3 hbd hred hBW hg hh hR0 g0 g1
  show Calls Try.prog 100 #[.agg #[.int .i64 3, .int .i64 0, .slice (some ⟨g, 0, none⟩) 2 c]] w _
  go_enter Try.func100, Try.ntmps100
  go_wp2_with fail
  rw [← hWd]
  clear hWd
  refine held_begin (fun w' => ∀ x, x < w.heap.size + 1 → w'.heap[x]? = W.heap[x]?) (by kernel_rfl) ?_
  have hS : ∀ x, x < w.heap.size + 1 → W.drew.heap[x]? = W.heap[x]? := fun _ _ => rfl
  refine held_valS 0 (some 3) rfl rfl (by kernel_rfl) (by kernel_rfl) (by kernel_rfl) noPanic_put rfl (.pointer (some ⟨w.heap.size, 2, none⟩)) (fun _ _ => by go_simp) hS ?_
  simp only [Act.put, List.setIfInBounds_toArray, List.set_cons_zero, List.set_cons_succ]
  refine held_valS 1 (some 4) rfl rfl (by kernel_rfl) (by kernel_rfl) (by kernel_rfl) noPanic_put rfl (.slice (some ⟨g, 0, none⟩) 2 c) (fun w' h => by have q := ((World.cell?_of_block (w := W) (a := ⟨w.heap.size, 2, none⟩) (h (w.heap.size) (by omega))).trans t2); go_simp) hS ?_
  simp only [Act.put, List.setIfInBounds_toArray, List.set_cons_zero, List.set_cons_succ]
  refine held_valS 2 (some 5) rfl rfl (by kernel_rfl) (by kernel_rfl) (by kernel_rfl) noPanic_put rfl (.pointer (some ⟨g, 0, none⟩)) (fun _ _ => by go_simp) hS ?_
  simp only [Act.put, List.setIfInBounds_toArray, List.set_cons_zero, List.set_cons_succ]
  refine held_valS 3 (some 6) rfl rfl (by kernel_rfl) (by kernel_rfl) (by kernel_rfl) noPanic_put rfl (.pointer (some ⟨g, 2, none⟩)) (fun _ _ => by go_simp) hS ?_
  simp only [Act.put, List.setIfInBounds_toArray, List.set_cons_zero, List.set_cons_succ]
  refine held_valS 4 (some 7) rfl rfl (by kernel_rfl) (by kernel_rfl) (by kernel_rfl) noPanic_put rfl (.slice (some ⟨h1, 0, none⟩) 1 c1) (fun w' h => by have q := ((World.cell?_of_block (w := W) (a := ⟨g, 2, none⟩) (h (g) (by omega))).trans g2); go_simp) hS ?_
  simp only [Act.put, List.setIfInBounds_toArray, List.set_cons_zero, List.set_cons_succ]
  refine held_valS 5 (some 8) rfl rfl (by kernel_rfl) (by kernel_rfl) (by kernel_rfl) noPanic_put rfl (.pointer (some ⟨h1, 0, none⟩)) (fun _ _ => by go_simp) hS ?_
  simp only [Act.put, List.setIfInBounds_toArray, List.set_cons_zero, List.set_cons_succ]
  refine held_valS 6 (some 9) rfl rfl (by kernel_rfl) (by kernel_rfl) (by kernel_rfl) noPanic_put rfl (.agg (lcC body.kd body.nm (.slice o3 body.kids.length c3))) (fun w' h => by unfold lcC; have q0 := ((World.cell?_of_block (w := W) (a := ⟨h1, 0, none⟩) (h (h1) (by omega))).trans h00); have q1 := ((World.cell?_of_block (w := W) (a := ⟨h1, 1, none⟩) (h (h1) (by omega))).trans h10); have q2 := ((World.cell?_of_block (w := W) (a := ⟨h1, 2, none⟩) (h (h1) (by omega))).trans h20); go_simp) hS ?_
  simp only [Act.put, List.setIfInBounds_toArray, List.set_cons_zero, List.set_cons_succ]
  refine held_valS 7 (some 10) rfl rfl (by kernel_rfl) (by kernel_rfl) (by kernel_rfl) noPanic_put rfl (.pointer (some ⟨w.heap.size, 2, none⟩)) (fun _ _ => by go_simp) hS ?_
  simp only [Act.put, List.setIfInBounds_toArray, List.set_cons_zero, List.set_cons_succ]
  refine held_valS 8 (some 11) rfl rfl (by kernel_rfl) (by kernel_rfl) (by kernel_rfl) noPanic_put rfl (.slice (some ⟨g, 0, none⟩) 2 c) (fun w' h => by have q := ((World.cell?_of_block (w := W) (a := ⟨w.heap.size, 2, none⟩) (h (w.heap.size) (by omega))).trans t2); go_simp) hS ?_
  simp only [Act.put, List.setIfInBounds_toArray, List.set_cons_zero, List.set_cons_succ]
  refine held_valS 9 (some 12) rfl rfl (by kernel_rfl) (by kernel_rfl) (by kernel_rfl) noPanic_put rfl (.pointer (some ⟨g, 3, none⟩)) (fun _ _ => by go_simp) hS ?_
  simp only [Act.put, List.setIfInBounds_toArray, List.set_cons_zero, List.set_cons_succ]
  refine held_valS 10 (some 13) rfl rfl (by kernel_rfl) (by kernel_rfl) (by kernel_rfl) noPanic_put rfl (.agg (lcC arg.kd arg.nm (.slice o2 arg.kids.length c2))) (fun w' h => by unfold lcC; have q0 := ((World.cell?_of_block (w := W) (a := ⟨g, 3, none⟩) (h (g) (by omega))).trans b0); have q1 := ((World.cell?_of_block (w := W) (a := ⟨g, 4, none⟩) (h (g) (by omega))).trans b1); have q2 := ((World.cell?_of_block (w := W) (a := ⟨g, 5, none⟩) (h (g) (by omega))).trans b2); go_simp) hS ?_
  simp only [Act.put, List.setIfInBounds_toArray, List.set_cons_zero, List.set_cons_succ]
  refine held_call 11 (some 14) (by kernel_rfl) rfl rfl rfl 129 #[.agg (lcC body.kd body.nm (.slice o3 body.kids.length c3)), .int .i64 0, .agg (lcC arg.kd arg.nm (.slice o2 arg.kids.length c2)), .int .i64 0] (by go_simp) _ (HC.out W.drew (Below.refl _ _).drew) ?_
  rintro e w5 ⟨⟨z5, rfl, hz5⟩, hw5⟩
  have hw5 : Below W.heap.size W w5 := ⟨hw5.os, hw5.tape, hw5.output, hw5.size, hw5.block⟩
  have hz5 : LcIn w5 (fun x => (P x ∧ x < w.heap.size) ∨ W.heap.size ≤ x) (body.sub 0 arg 0) z5 := hz5
  have hsz5 := hw5.size
  have hS5 : ∀ x, x < w.heap.size + 1 → w5.heap[x]? = W.heap[x]? := fun x hx => hw5.block x (by omega)
  refine ⟨_, rfl, hS5, ?_⟩
  simp only [Act.put, List.setIfInBounds_toArray, List.set_cons_zero, List.set_cons_succ]
  obtain ⟨o5, c5, hzz5⟩ := hz5.form
  subst hzz5
  have hRz : RowAt w5 (w.heap.size + 1) 54 #[.int .i64 0, .int .i64 0, .slice none 0 0] := hR1.below hw5 (by omega)
  refine held_one 12 (by kernel_rfl) rfl rfl ?_
  intro K hK
  refine store_3_wp 54 (.tmp 2) (.tmp 14) rfl rfl zero_lcT.2 (w.heap.size + 1) (lcC (body.sub 0 arg 0).kd (body.sub 0 arg 0).nm (.slice o5 (body.sub 0 arg 0).kids.length c5)) rfl (lcC_one _ _ _ rfl) rfl rfl #[.int .i64 0, .int .i64 0, .slice none 0 0] rfl hRz ?_
  intro w9 hR9 hg9 hs9
  have hS9 : ∀ x, x < w.heap.size + 1 → w9.heap[x]? = W.heap[x]? := fun x hx => by rw [hg9.block x (by omega) (by intro e; injection e; omega)]; exact hS5 x hx
  refine hK.out _ _ hS9 ?_
  refine wpAnyH_done (by kernel_rfl) ?_ _
  refine NoPanic.normal ?_
  have HF : Hid (LcIn w9 (fun x => P x ∨ w.heap.size ≤ x) (body.sub 0 arg 0) (.slice o5 (body.sub 0 arg 0).kids.length c5) ∧ Below w.heap.size w w9 ∧ RowAt w9 (w.heap.size + 1) 54 (lcC (body.sub 0 arg 0).kd (body.sub 0 arg 0).nm (.slice o5 (body.sub 0 arg 0).kids.length c5))) := by
    refine ⟨LcIn.keep (w := w5) (by omega) (fun x hx hl => hg9.block x hl (by intro e; injection e with e; rcases hx with hx | hx <;> omega)) (fun x hx _ => by rcases hx with hx | hx; exact .inl hx.1; exact .inr (by omega)) hz5, (HBW.out.trans (hw5.mono HBW.out.size)).grown hg9 (by have := HBW.out.size; omega) (by intro k hk; cases hk; omega), hR9⟩
  clear hK hS hS5 hS9 hz5 hw5 hg9 hR9 hRz
  go_wp2
  exact bodyPost_ret (v := .agg (lcC (body.sub 0 arg 0).kd (body.sub 0 arg 0).nm (.slice o5 (body.sub 0 arg 0).kids.length c5))) (results_cell_row Try.results100 _ _ (w.heap.size + 1) 54 (lcC (body.sub 0 arg 0).kd (body.sub 0 arg 0).nm (.slice o5 (body.sub 0 arg 0).kids.length c5)) (0, 0) _ rfl HF.out.2.2 Try.underlying54 rfl zero_lcT.2) rfl ⟨⟨_, rfl, HF.out.1⟩, HF.out.2.1⟩
theorem nodeOf_kids {k n : Int} {ts : List Lm} {t : Lm} (h : nodeOf k n ts = some t) : t.kids = ts ∧ t.kd = k ∧ t.nm = n := by
  match ts, h with
  | [], h =>
    simp only [nodeOf] at h
    split at h
    · next hk => injection h with h; subst h; exact ⟨rfl, hk.symm, rfl⟩
    · cases h
  | [a], h =>
    simp only [nodeOf] at h
    split at h
    · next hk => injection h with h; subst h; exact ⟨rfl, hk.1.symm, hk.2.symm⟩
    · cases h
  | [a, b], h =>
    simp only [nodeOf] at h
    split at h
    · next hk => injection h with h; subst h; exact ⟨rfl, hk.1.symm, hk.2.symm⟩
    · cases h
  | _ :: _ :: _ :: _, h => simp [nodeOf] at h
theorem chgAt_ge (f : Lm → Lm) : ∀ (t : Lm) (k : Nat), t.sz ≤ k → Lm.chgAt f t k = t
  | .var n, 0, h => by simp [Lm.sz] at h
  | .var n, k + 1, h => by rw [Lm.chgAt]
  | .lam t, 0, h => by simp [Lm.sz] at h
  | .lam t, k + 1, h => by simp only [Lm.sz] at h; rw [Lm.chgAt, if_neg (by omega)]
  | .app s t, 0, h => by simp [Lm.sz] at h
  | .app s t, k + 1, h => by simp only [Lm.sz] at h; rw [Lm.chgAt, if_neg (by omega), if_neg (by omega)]
theorem szL_kids (t : Lm) : szL t.kids + 1 = t.sz := by cases t <;> simp [Lm.kids, szL, Lm.sz]
/-- How many nodes are left to go. -/
def leftK (t : Lm) (k : Nat) : Int := if k < t.sz then -1 else (k : Int) - t.sz
def LcAtC (N : Nat) : Prop := ∀ (t : Lm), t.sz ≤ N → ∀ (k : Nat) (z : Value) (P : Nat → Prop) (w : World), LcIn w P t z → t.bd → t.sz ≤ 400 → k ≤ 1000 → (k < t.sz → ∃ s, t.subAt k = some s ∧ s.isRed = true) →
    Calls Try.prog 104 #[.agg (lcC t.kd t.nm z), .int .i64 (k : Int)] w fun e w' => (∃ z', e = .returned (.tuple #[.agg (lcC (Lm.chgAt Lm.beta t k).kd (Lm.chgAt Lm.beta t k).nm z'), .int .i64 (leftK t k)]) ∧ LcIn w' (fun x => P x ∨ w.heap.size ≤ x) (Lm.chgAt Lm.beta t k) z') ∧ Below w.heap.size w w'
/-- How many are left behind some parts. -/
def leftL (K : Nat) (As : List Lm) : Int := if K < szL As then -1 else (K : Int) - szL As
set_option maxHeartbeats 8000000 in
set_option maxRecDepth 100000 in
theorem lcAt_step (N : Nat) (IH : ∀ n, n < N → LcAtC n) : LcAtC N := by
  intro t ht k z P w hz hbd hsz hk1000 hsub
  have hz0 := zero_lcT.1
  obtain ⟨oz, cz, hzz⟩ := hz.form
  subst hzz
  have HZ := hideT' hz
  obtain ⟨W, hWd⟩ : ∃ W, W = (w.alloc (.cells #[.int .i64 t.kd, .int .i64 t.nm, .slice oz t.kids.length cz] 54)).alloc (.cells #[.int .i64 0, .int .i64 0, .slice none 0 0] 54) := ⟨_, rfl⟩
  have hBW : Below w.heap.size w W := by rw [hWd]; exact ((Below.refl _ _).alloc (Nat.le_refl _) _).alloc (by simp) _
  have hWs : w.heap.size + 2 = W.heap.size := by rw [hWd]; simp
  have hR0 : RowAt W w.heap.size 54 #[.int .i64 t.kd, .int .i64 t.nm, .slice oz t.kids.length cz] := by rw [hWd]; exact RowAt.old (RowAt.new _ _ _) _
  have hR1 : RowAt W (w.heap.size + 1) 54 #[.int .i64 0, .int .i64 0, .slice none 0 0] := by
    rw [hWd]
    have := RowAt.new (w.alloc (.cells #[.int .i64 t.kd, .int .i64 t.nm, .slice oz t.kids.length cz] 54)) 54 #[.int .i64 0, .int .i64 0, .slice none 0 0]
    rwa [World.size_alloc] at this
  have HBW := hideT' hBW
  have HWS := hideT' hWs
  by_cases hk0 : k = 0
  · subst hk0
    obtain ⟨s, hs1, hs2⟩ := hsub t.sz_pos
    have hts : t = s := by cases t <;> (rw [Lm.subAt] at hs1; injection hs1)
    subst hts
    have HE : Hid (Lm.chgAt Lm.beta t 0 = t.beta ∧ leftK t 0 = -1) := ⟨by cases t <;> rw [Lm.chgAt], by unfold leftK; rw [if_pos t.sz_pos]⟩
    have HC := hideT' (lcBeta_any t (.slice oz t.kids.length cz) (fun x => P x ∧ x < w.heap.size) W (LcIn.keep (w := w) hBW.size (fun x _ hl => hBW.block x hl) (fun x h hl => ⟨h, hl⟩) hz) hs2 (by omega) hbd)
    have HR1 := hideT' hR1
    obtain ⟨kd, hkd⟩ : ∃ kd, kd = t.kd := ⟨_, rfl⟩
    obtain ⟨nm, hnm⟩ : ∃ nm, nm = t.nm := ⟨_, rfl⟩
    obtain ⟨q, hq⟩ : ∃ q, q = t.kids.length := ⟨_, rfl⟩
    rw [← hkd, ← hnm, ← hq] at HC hWd
    rw [← hkd, ← hnm, ← hq]
    unfold lcC at HC ⊢
    clear IH hz hbd hsub hs1 hs2 hR0 hR1 hBW hWs hkd hnm hq
    go_enter Try.func104, Try.ntmps104
    go_wp2_with fail
    rw [← hWd]
    refine HC.out.mono ?_
    rintro e w5 ⟨⟨z5, rfl, hz5⟩, hB5⟩
    obtain ⟨o5, c5, hzz5⟩ := hz5.form
    subst hzz5
    have HRZ : Hid (RowAt w5 (w.heap.size + 1) 54 #[.int .i64 0, .int .i64 0, .slice none 0 0]) := HR1.out.below hB5 (by have := HWS.out; omega)
    have HZ5 := hideT' (And.intro hz5 hB5)
    clear hz5 hB5 hWd
    go_wp2_with (refine store_3 rfl 54 _ _ rfl rfl zero_lcT.2 (w.heap.size + 1) (lcC t.beta.kd t.beta.nm (.slice o5 t.beta.kids.length c5)) rfl (lcC_one _ _ _ rfl) rfl rfl _ rfl HRZ.out ?_; intro w9 hR9 hg9 hs9)
    have hs5 := HZ5.out.2.size
    have hww := HWS.out
    refine bodyPost_ret (v := .tuple #[.agg (lcC t.beta.kd t.beta.nm (.slice o5 t.beta.kids.length c5)), .int .i64 (-1)]) (res_lc_tmp Try.results104 _ _ (w.heap.size + 1) t.beta.kd t.beta.nm (.slice o5 t.beta.kids.length c5) (.int .i64 (-1)) rfl rfl hR9) rfl ⟨⟨.slice o5 t.beta.kids.length c5, by rw [HE.out.1, HE.out.2]; rfl, ?_⟩, (HBW.out.trans (HZ5.out.2.mono HBW.out.size)).grown hg9 (by omega) (by intro k hk; cases hk; omega)⟩
    rw [HE.out.1]
    exact LcIn.keep (w := w5) (by omega) (fun x hx hl => hg9.block x hl (by intro e; injection e with e; rcases hx with hx | hx <;> omega)) (fun x hx _ => by rcases hx with hx | hx; exact .inl hx.1; exact .inr (by omega)) HZ5.out.1
  · obtain ⟨K, rfl⟩ : ∃ K, k = K + 1 := ⟨k - 1, by omega⟩
    have hnode := nodeOf_kids (chgAt_node Lm.beta t K)
    have HSK : Hid ((Lm.chgAt Lm.beta t (K + 1)).kids = chgL Lm.beta (K + 1) 1 t.kids ∧ (Lm.chgAt Lm.beta t (K + 1)).kd = t.kd ∧ (Lm.chgAt Lm.beta t (K + 1)).nm = t.nm) := hnode
    have HLK : Hid (leftK t (K + 1) = leftL K t.kids) := by
      unfold Hid leftK leftL
      have := szL_kids t
      by_cases h : K + 1 < t.sz
      · rw [if_pos h, if_pos (by omega)]
      · rw [if_neg h, if_neg (by omega)]; omega
    have HSUB : Hid (∀ (As : List Lm) (T : Lm) (Bs : List Lm), t.kids = As ++ T :: Bs → szL As ≤ K → (K - szL As < T.sz → ∃ s, T.subAt (K - szL As) = some s ∧ s.isRed = true)) := by
      intro As T Bs hab h1 h2
      have hlt : K + 1 < t.sz := by
        have := szL_kids t
        rw [hab, szL_app] at this
        simp only [szL] at this
        omega
      obtain ⟨s, hs1, hs2⟩ := hsub hlt
      have := subAt_kid hs1 As T Bs hab (by omega) (by omega)
      rw [show K + 1 - (1 + szL As) = K - szL As by omega] at this
      exact ⟨s, this, hs2⟩
    have HIH := hideT' IH
    have HTN := hideT' ht
    have HBD := hideT' hbd
    obtain ⟨kd, hkd⟩ : ∃ kd, kd = t.kd := ⟨_, rfl⟩
    obtain ⟨nm, hnm⟩ : ∃ nm, nm = t.nm := ⟨_, rfl⟩
    obtain ⟨q, hq⟩ : ∃ q, q = t.kids.length := ⟨_, rfl⟩
    have hq2 : q ≤ 2 := by rw [hq]; cases t <;> simp [Lm.kids]
    rw [← hkd, ← hnm, ← hq] at hWd hR0
    rw [← hq] at HZ
    rw [← hkd, ← hnm, ← hq]
    rw [← hkd, ← hnm] at HSK
    have HQ := hideT' hq
    have HSZ : Hid (∀ s ∈ t.kids, s.sz < t.sz) := fun s hs => Lm.kids_lt hs
    obtain ⟨W3, hW3⟩ : ∃ W3, W3 = W.alloc (.cells #[.int .i64 kd, .int .i64 nm, .slice none 0 0] 54) := ⟨_, rfl⟩
    have hB3 : Below w.heap.size w W3 := by rw [hW3]; exact hBW.alloc (by omega) _
    have hs3 : W3.heap.size = w.heap.size + 3 := by rw [hW3, World.size_alloc]; omega
    have hRo : RowAt W3 (w.heap.size + 2) 54 (lcC kd nm (.slice none 0 0)) := by rw [hW3, hWs]; exact RowAt.new W _ _
    have HRR : Hid (RowAt W3 (w.heap.size + 1) 54 #[.int .i64 0, .int .i64 0, .slice none 0 0]) := by rw [hW3]; exact RowAt.old hR1 _
    have HOS := hideT' (OutZ.start (P := fun x => P x ∧ x < w.heap.size) hRo)
    have HB3 := hideT' hB3
    have HS3 := hideT' hs3
    have hKb : ((K : Int) + 1 == 0) = false := by simp only [beq_eq_false_iff_ne]; omega
    have hKz : ¬ (K : Int) + 1 = 0 := by omega
    have hwk : IntKind.i64.wrap ((K : Int) + 1 - 1) = (K : Int) := by rw [IntKind.wrap_i64]; omega
    have hcast : ((K + 1 : Nat) : Int) = (K : Int) + 1 := by omega
    rw [hcast]
    unfold lcC
    obtain ⟨i0, hi, hzz0, hzz1, hzz2⟩ := info_parts info_lcT
    clear IH hz hbd hsub hR0 hR1 hBW hWs hkd hnm hq hB3 hRo hs3 hcast hnode ht hk0
    go_enter Try.func104, Try.ntmps104
    go_wp2_with fail
    rw [← hWd, ← hW3]
    go_loopg [1, 23] q (fun gg kv i wr => ∃ (As Bs : List Lm) (z : Value) (ys : List Value) (kk : Int), gg = Bs.length ∧ Hid (t.kids = As ++ Bs ∧ kk = leftL K As) ∧ kv = .int .i64 kk ∧ i = .int .i64 (As.length : Int) ∧ Hid (OutZ W3 wr (w.heap.size + 2) kd nm (fun x => P x ∧ x < w.heap.size) (chgL Lm.beta (K + 1) 1 As) z ys) ∧ Hid (Below w.heap.size w wr))
    case atStart => exact ⟨[], t.kids, .slice none 0 0, [], (K : Int), by rw [HQ.out], ⟨rfl, by simp [leftL, szL]⟩, by go_num, rfl, HOS, HB3⟩
    case round =>
      obtain ⟨As, Bs, z, ys, kk, hgg, HA, rfl, rfl, HO, HB⟩ := hrel
      obtain ⟨j, hj⟩ : ∃ j, j = As.length := ⟨_, rfl⟩
      obtain ⟨ox, cx, hzx⟩ := own_formT HO.out.own
      rw [chgL_len, ← hj] at hzx
      subst hzx
      rw [← hj]
      have HJ := hideT' hj
      clear hj
      have hRz : RowAt wr (w.heap.size + 1) 54 #[.int .i64 0, .int .i64 0, .slice none 0 0] := HO.out.rowOf (by omega) HRR.out
      have hRo : RowAt wr (w.heap.size + 2) 54 (lcC kd nm (.slice ox j cx)) := HO.out.row
      have hws : w.heap.size + 2 < wr.heap.size := hRo.lt
      cases Bs with
      | nil =>
        have hjm : j = q := by rw [HJ.out, HQ.out, HA.out.1]; simp
        have hnl : ¬ (j : Int) < (q : Int) := by omega
        have HEK : Hid (t.kids = As) := by unfold Hid; rw [HA.out.1]; simp
        clear hgg hjm
        go_wp2_with (first | (refine wpList_load_row rfl 54 _ rfl (w.heap.size + 2) rfl 54 (lcC kd nm (.slice ox j cx)) (0, 0) _ hRo Try.underlying54 rfl zero_lcT.2 ?_) | (refine store_3 rfl 54 _ _ rfl rfl zero_lcT.2 (w.heap.size + 1) (lcC kd nm (.slice ox j cx)) rfl (lcC_one _ _ _ rfl) rfl rfl _ rfl hRz ?_; intro w5 hR5 hg5 hs5))
        have hfin : LcIn w5 (fun x => P x ∨ w.heap.size ≤ x) (Lm.chgAt Lm.beta t (K + 1)) (.slice ox j cx) := by
          have ho := HO.out
          rw [← HEK.out, ← HSK.out.1] at ho
          refine LcIn.keep (w := wr) (by omega) (fun x hx hl => hg5.block x hl (by intro e; injection e with e; have := HS3.out; rcases hx with hx | hx <;> omega)) (fun x hx _ => ?_) ho.done
          have := HS3.out
          rcases hx with hx | hx
          · exact .inl hx.1.1
          · exact .inr (by omega)
        exact bodyPost_ret (v := .tuple #[.agg (lcC kd nm (.slice ox j cx)), .int .i64 kk]) (res_lc_tmp Try.results104 _ _ (w.heap.size + 1) kd nm (.slice ox j cx) (.int .i64 kk) rfl rfl hR5) rfl ⟨⟨.slice ox j cx, by rw [HSK.out.2.1, HSK.out.2.2, HLK.out, HA.out.2, HEK.out]; rfl, hfin⟩, HB.out.grown hg5 (by have := HB.out.size; omega) (by intro k hk; cases hk; omega)⟩
      | cons T Bs =>
        have hil : (j : Int) < (q : Int) := by rw [HQ.out, HA.out.1, List.length_append, ← HJ.out]; simp; omega
        have hkj : t.kids[j]? = some T := by rw [HA.out.1, HJ.out]; simp
        have hTm : T ∈ t.kids := List.mem_of_getElem? hkj
        have hzr : LcIn wr (fun b => P b ∧ b < w.heap.size) t (.slice oz q cz) := LcIn.keep (w := w) HB.out.size (fun x hx hl => HB.out.block x hl) (fun x hx hl => ⟨hx, hl⟩) HZ.out
        obtain ⟨o', c', e', hpart⟩ := hzr.parts
        injection e' with e1 e2 e3
        subst e1
        clear e2 e3
        obtain ⟨g, z1, hoz, hg, ⟨k0, k1, k2⟩, hz1⟩ := hpart j T hkj
        subst hoz
        have hg1 := hg.1
        obtain ⟨oz1, cz1, hzz1'⟩ := hz1.form
        subst hzz1'
        obtain ⟨W2, hW2⟩ : ∃ W2, W2 = wr.alloc (.cells #[.int .i64 T.kd, .int .i64 T.nm, .slice oz1 T.kids.length cz1] 54) := ⟨_, rfl⟩
        have hB2 : Below wr.heap.size wr W2 := by rw [hW2]; exact (Below.refl _ _).alloc (Nat.le_refl _) _
        have hz2 : LcIn W2 (fun b => P b ∧ b < w.heap.size) T (.slice oz1 T.kids.length cz1) := LcIn.below hB2 hz1
        have hRk2 : RowAt W2 wr.heap.size 54 #[.int .i64 T.kd, .int .i64 T.nm, .slice oz1 T.kids.length cz1] := by rw [hW2]; exact RowAt.new wr _ _
        have hTs := HSZ.out T hTm
        have HB2 := hideT' hB2
        have hs2 : W2.heap.size = wr.heap.size + 1 := by rw [hW2]; simp
        have HS2 := hideT' hs2
        have HRS := hideT' (And.intro hRz (And.intro hRo hRk2))
        have HZ2 := hideT' hz2
        have HTM := hideT' hTm
        have hchs : szL (As ++ [T]) = szL As + T.sz := by rw [szL_app]; simp [szL]
        by_cases hin : szL As ≤ K
        · have hkk : kk = ((K - szL As : Nat) : Int) := by rw [HA.out.2, leftL, if_neg (by omega)]; omega
          have hk0n : (0 : Int) ≤ kk := by omega
          have HCALL := hideT' (HIH.out T.sz (by have := HTN.out; omega) T (Nat.le_refl _) (K - szL As) _ _ W2 hz2 (Lm.bd_kid HBD.out hTm) (by omega) (by omega) (HSUB.out As T Bs HA.out.1 hin))
          rw [← hkk] at HCALL
          obtain ⟨kn, hkn⟩ : ∃ kn, kn = leftK T (K - szL As) := ⟨_, rfl⟩
          rw [← hkn] at HCALL
          have HA2 : Hid (t.kids = (As ++ [T]) ++ Bs ∧ kn = leftL K (As ++ [T])) := by
            refine ⟨by rw [HA.out.1]; simp, ?_⟩
            rw [hkn]
            unfold leftK leftL
            rw [hchs]
            by_cases h : K - szL As < T.sz
            · rw [if_pos h, if_pos (by omega)]
            · rw [if_neg h, if_neg (by omega)]; omega
          have HCL : Hid (chgL Lm.beta (K + 1) 1 (As ++ [T]) = chgL Lm.beta (K + 1) 1 As ++ [Lm.chgAt Lm.beta T (K - szL As)]) := by
            unfold Hid
            rw [chgL_app]
            simp only [chgL]
            by_cases h : K - szL As < T.sz
            · rw [if_pos (by omega), show K + 1 - (1 + szL As) = K - szL As by omega]
            · rw [if_neg (by omega), chgAt_ge _ _ _ (by omega)]
          unfold lcC at HCALL
          clear hzr hpart hz1 hz2 hB2 hkj hTm hRz hRo hRk2 hTs hs2 hkk hkn hchs hin
          go_wp2_with fail
          rw [← hW2]
          refine HCALL.out.mono ?_
          rintro e w9 ⟨⟨z9, rfl, hz9⟩, hB9⟩
          obtain ⟨o9, c9, hzz9⟩ := hz9.form
          subst hzz9
          have hB29 : Below wr.heap.size wr w9 := HB2.out.trans (hB9.mono HB2.out.size)
          have hs9 := hB9.size
          have HRK9 := hideT' (HRS.out.2.2.below hB9 HRS.out.2.2.lt)
          have HB29 := hideT' hB29
          have HZ9 := hideT' hz9
          have HB9 : Hid (Below w.heap.size w w9) := HB.out.trans (hB29.mono HB.out.size)
          obtain ⟨k9, hk9⟩ : ∃ k9, k9 = (Lm.chgAt Lm.beta T (K - szL As)).kd := ⟨_, rfl⟩
          obtain ⟨n9, hn9⟩ : ∃ n9, n9 = (Lm.chgAt Lm.beta T (K - szL As)).nm := ⟨_, rfl⟩
          obtain ⟨l9, hl9⟩ : ∃ l9, l9 = (Lm.chgAt Lm.beta T (K - szL As)).kids.length := ⟨_, rfl⟩
          rw [← hl9] at HZ9
          rw [← hk9, ← hn9, ← hl9]
          have HN9 := hideT' (And.intro hk9 hn9)
          have hsw : wr.heap.size < w9.heap.size := by have := HS2.out; omega
          clear hk9 hn9 hl9 hz9 hB9 hB29 k0 k1 k2 hW2
          go_wp2_with (refine store_3 rfl 54 _ _ rfl rfl zero_lcT.2 wr.heap.size (lcC k9 n9 (.slice o9 l9 c9)) rfl (lcC_one _ _ _ rfl) rfl rfl _ rfl HRK9.out ?_; intro wx hRx hgx hsx; refine Hid.out ?_)
          unfold Hid
          have hgxb : ∀ x, x < w9.heap.size → x ≠ wr.heap.size → wx.heap[x]? = w9.heap[x]? := fun x hx hne => hgx.block x hx (by intro e; injection e with e; exact hne e)
          have HOX : Hid (OutZ W3 wx (w.heap.size + 2) kd nm (fun x => P x ∧ x < w.heap.size) (chgL Lm.beta (K + 1) 1 As) (.slice ox j cx) ys) := OutZ.moved HO.out (by omega) (fun x hx => by rw [hgxb x (by omega) (by omega)]; exact HB29.out.block x hx)
          have HPX : Hid (LcIn wx (OutP W3 (w.heap.size + 2) (fun x => P x ∧ x < w.heap.size) (.slice ox j cx)) (Lm.chgAt Lm.beta T (K - szL As)) (.slice o9 l9 c9)) := HO.out.part (Nat.le_refl _) (LcIn.keep (w := w9) (by omega) (fun x hx hl => hgxb x hl (by have := HS2.out; rcases hx with hx | hx <;> omega)) (fun _ h _ => h) HZ9.out) (fun x hx _ => by rcases hx with hx | hx; exact .inl ⟨hx, by omega⟩; exact .inr (by have := HS2.out; omega))
          have HRKX : Hid (RowAt wx wr.heap.size 54 (lcC k9 n9 (.slice o9 l9 c9))) := hRx
          have HBX9 : Hid (Below w.heap.size w wx) := HB9.out.grown hgx (by have := HB9.out.size; omega) (by intro k hk; cases hk; have := HB.out.size; omega)
          clear hRx hgx hsx hgxb
          have HLC : Hid (∀ jj uu, (lcL k9 n9 (.slice o9 l9 c9))[jj]? = some uu → (wx.alloc (.cells #[.int .i64 k9, .int .i64 n9, .slice o9 l9 c9] 54)).cell? ((⟨wx.heap.size, 0, none⟩ : Addr).add jj) = some uu) := lc_cells wx k9 n9 (.slice o9 l9 c9)
          have hown : wx.ownsRow W3.heap.size 54 3 (.slice ox j cx) j ys := by have := HOX.out.own; rwa [chgL_len, ← HJ.out] at this
          have HOWN := hideT' hown
          have hb3 : W3.heap.size ≤ wx.heap.size := HOX.out.size
          have HROW : Hid (RowAt (wx.alloc (.cells #[.int .i64 k9, .int .i64 n9, .slice o9 l9 c9] 54)) (w.heap.size + 2) 54 (lcC kd nm (.slice ox j cx))) := RowAt.old HOX.out.row _
          have HNB : Hid (∀ b, (Value.slice ox j cx).ownBlock = some b → W3.heap.size ≤ b) := fun b e => (hown.lt b e).1
          have r3 : wx.cell? ⟨w.heap.size + 2, 2, none⟩ = some (.slice ox j cx) := by rw [cell_of_row _ _ _ _ _ _ HOX.out.row]; rfl
          have s0 : wx.cell? ⟨wr.heap.size, 0, none⟩ = some (.int .i64 k9) := by rw [cell_of_row _ _ _ _ _ _ HRKX.out]; rfl
          have s1 : wx.cell? ⟨wr.heap.size, 1, none⟩ = some (.int .i64 n9) := by rw [cell_of_row _ _ _ _ _ _ HRKX.out]; rfl
          have s2 : wx.cell? ⟨wr.heap.size, 2, none⟩ = some (.slice o9 l9 c9) := by rw [cell_of_row _ _ _ _ _ _ HRKX.out]; rfl
          have hkl := HRKX.out.lt
          have hws9 : w.heap.size + 2 < wx.heap.size := HOX.out.row.lt
          clear hown
          go_wp2_with (first | (at_builtin; refine append_own3 _ rfl _ _ 52 rfl W3.heap.size 54 i0 (.agg #[.int .i64 0, .int .i64 0, .slice none 0 0]) 3 40 Try.underlying52 hi hzz0 hzz1 hzz2 rfl (by decide) (.slice ox j cx) j ys rfl (HOWN.out.alloc _) ⟨wx.heap.size, 0, none⟩ 1 1 (lcL k9 n9 (.slice o9 l9 c9)) rfl rfl HLC.out (lcL_one _ _ _ rfl) (by omega) (by unfold maxLen; omega) (by omega) (by simp; omega) ?_; intro v6 w6 hv6 hg6 hb6; obtain ⟨o6, c6, hv6e⟩ := own_formT hv6; subst hv6e; have hR6 : RowAt w6 (w.heap.size + 2) 54 (lcC kd nm (.slice ox j cx)) := HROW.out.grown hg6 (fun e => by have := HNB.out _ e.symm; have := HS3.out; omega); have HV6 := hideT' hv6; have HG6 := hideT' hg6; have HB6 := hideT' hb6; clear hv6 hg6 hb6) | (refine store_at rfl 52 _ _ rfl rfl (w.heap.size + 2) 2 (.slice o6 (j + 1) c6) rfl rfl one_sllc rfl 54 (lcC kd nm (.slice ox j cx)) hR6 (show 2 < 3 by omega) ?_; intro w7 hR7 hg7 hs7))
          have HEND : Hid (OutZ W3 w7 (w.heap.size + 2) kd nm (fun x => P x ∧ x < w.heap.size) (chgL Lm.beta (K + 1) 1 (As ++ [T])) (.slice o6 (j + 1) c6) (ys ++ lcL (Lm.chgAt Lm.beta T (K - szL As)).kd (Lm.chgAt Lm.beta T (K - szL As)).nm (.slice o9 l9 c9))) := by
            unfold Hid
            rw [HCL.out]
            refine OutZ.push HOX.out HPX.out ?_ HG6.out HB6.out hR7 hg7
            rw [chgL_len, ← HJ.out, ← HN9.out.1, ← HN9.out.2]
            exact HV6.out
          have HB7 : Hid (Below w.heap.size w w7) := ((HBX9.out.alloc (by have := HBX9.out.size; omega) _).grown HG6.out (by have := HBX9.out.size; simp; omega) (fun k e => by have := HNB.out k e; have := HS3.out; omega)).grown hg7 (by have := HBX9.out.size; have := HG6.out.size; simp at this; omega) (by intro k hk; cases hk; omega)
          clear hR7 hg7 hs7 hR6
          go_wp2
          go_roundg Bs.length
          case measure => first | omega | (rw [hgg]; simp)
          case rel => exact ⟨As ++ [T], Bs, .slice o6 (j + 1) c6, _, _, rfl, HA2, rfl, by rw [List.length_append, ← HJ.out]; go_num, HEND, HB7⟩
        · have hkk : kk = -1 := by rw [HA.out.2, leftL, if_pos (by omega)]
          subst hkk
          have HA2 : Hid (t.kids = (As ++ [T]) ++ Bs ∧ (-1 : Int) = leftL K (As ++ [T])) := ⟨by rw [HA.out.1]; simp, by unfold leftL; rw [hchs, if_pos (by omega)]⟩
          have HCL : Hid (chgL Lm.beta (K + 1) 1 (As ++ [T]) = chgL Lm.beta (K + 1) 1 As ++ [T]) := by
            unfold Hid
            rw [chgL_app]
            simp only [chgL]
            rw [if_neg (by omega)]
          obtain ⟨k9, hk9⟩ : ∃ k9, k9 = T.kd := ⟨_, rfl⟩
          obtain ⟨n9, hn9⟩ : ∃ n9, n9 = T.nm := ⟨_, rfl⟩
          obtain ⟨l9, hl9⟩ : ∃ l9, l9 = T.kids.length := ⟨_, rfl⟩
          obtain ⟨o9, ho9⟩ : ∃ o9, o9 = oz1 := ⟨_, rfl⟩
          obtain ⟨c9, hc9⟩ : ∃ c9, c9 = cz1 := ⟨_, rfl⟩
          rw [← hk9, ← hn9, ← hl9, ← ho9, ← hc9] at HRS
          rw [← hl9, ← ho9, ← hc9] at HZ2
          rw [← hk9] at k0
          rw [← hn9] at k1
          rw [← hl9, ← ho9, ← hc9] at k2
          rw [← hk9, ← hn9, ← hl9, ← ho9, ← hc9] at hW2
          have HOX : Hid (OutZ W3 W2 (w.heap.size + 2) kd nm (fun x => P x ∧ x < w.heap.size) (chgL Lm.beta (K + 1) 1 As) (.slice ox j cx) ys) := HO.out.below HB2.out
          have HPX : Hid (LcIn W2 (OutP W3 (w.heap.size + 2) (fun x => P x ∧ x < w.heap.size) (.slice ox j cx)) T (.slice o9 l9 c9)) := HO.out.part (Nat.le_refl _) HZ2.out (fun x hx _ => .inl ⟨hx, by omega⟩)
          have HRK2 : Hid (RowAt W2 wr.heap.size 54 (lcC k9 n9 (.slice o9 l9 c9))) := HRS.out.2.2
          have HBX2 : Hid (Below w.heap.size w W2) := HB.out.trans (HB2.out.mono HB.out.size)
          have HN9 := hideT' (And.intro hk9 hn9)
          rw [hW2] at HOX HPX HRK2 HBX2
          clear hW2
          clear hzr hpart hz1 hz2 hB2 hkj hTm hRz hRo hRk2 hTs hs2 hchs hin hk9 hn9 hl9 ho9 hc9
          have HLC : Hid (∀ jj uu, (lcL k9 n9 (.slice o9 l9 c9))[jj]? = some uu → ((wr.alloc (.cells #[.int .i64 k9, .int .i64 n9, .slice o9 l9 c9] 54)).alloc (.cells #[.int .i64 k9, .int .i64 n9, .slice o9 l9 c9] 54)).cell? ((⟨wr.heap.size + 1, 0, none⟩ : Addr).add jj) = some uu) := by
            have := lc_cells (wr.alloc (.cells #[.int .i64 k9, .int .i64 n9, .slice o9 l9 c9] 54)) k9 n9 (.slice o9 l9 c9)
            rw [World.size_alloc] at this
            exact this
          have hown : (wr.alloc (.cells #[.int .i64 k9, .int .i64 n9, .slice o9 l9 c9] 54)).ownsRow W3.heap.size 54 3 (.slice ox j cx) j ys := by have := HOX.out.own; rwa [chgL_len, ← HJ.out] at this
          have HOWN := hideT' hown
          have hb3 : W3.heap.size ≤ wr.heap.size := HO.out.size
          have HROW : Hid (RowAt ((wr.alloc (.cells #[.int .i64 k9, .int .i64 n9, .slice o9 l9 c9] 54)).alloc (.cells #[.int .i64 k9, .int .i64 n9, .slice o9 l9 c9] 54)) (w.heap.size + 2) 54 (lcC kd nm (.slice ox j cx))) := RowAt.old HOX.out.row _
          have HNB : Hid (∀ b, (Value.slice ox j cx).ownBlock = some b → W3.heap.size ≤ b) := fun b e => (hown.lt b e).1
          have r3 : wr.cell? ⟨w.heap.size + 2, 2, none⟩ = some (.slice ox j cx) := by rw [cell_of_row _ _ _ _ _ _ HO.out.row]; rfl
          clear hown
          go_wp2_with (first | (at_builtin; refine append_own3 _ rfl _ _ 52 rfl W3.heap.size 54 i0 (.agg #[.int .i64 0, .int .i64 0, .slice none 0 0]) 3 40 Try.underlying52 hi hzz0 hzz1 hzz2 rfl (by decide) (.slice ox j cx) j ys rfl (HOWN.out.alloc _) ⟨wr.heap.size + 1, 0, none⟩ 1 1 (lcL k9 n9 (.slice o9 l9 c9)) rfl rfl HLC.out (lcL_one _ _ _ rfl) (by omega) (by unfold maxLen; omega) (by omega) (by simp; omega) ?_; intro v6 w6 hv6 hg6 hb6; obtain ⟨o6, c6, hv6e⟩ := own_formT hv6; subst hv6e; have hR6 : RowAt w6 (w.heap.size + 2) 54 (lcC kd nm (.slice ox j cx)) := HROW.out.grown hg6 (fun e => by have := HNB.out _ e.symm; have := HS3.out; omega); have HV6 := hideT' hv6; have HG6 := hideT' hg6; have HB6 := hideT' hb6; clear hv6 hg6 hb6) | (refine store_at rfl 52 _ _ rfl rfl (w.heap.size + 2) 2 (.slice o6 (j + 1) c6) rfl rfl one_sllc rfl 54 (lcC kd nm (.slice ox j cx)) hR6 (show 2 < 3 by omega) ?_; intro w7 hR7 hg7 hs7))
          have HEND : Hid (OutZ W3 w7 (w.heap.size + 2) kd nm (fun x => P x ∧ x < w.heap.size) (chgL Lm.beta (K + 1) 1 (As ++ [T])) (.slice o6 (j + 1) c6) (ys ++ lcL T.kd T.nm (.slice o9 l9 c9))) := by
            unfold Hid
            rw [HCL.out]
            refine OutZ.push HOX.out HPX.out ?_ HG6.out HB6.out hR7 hg7
            rw [chgL_len, ← HJ.out, ← HN9.out.1, ← HN9.out.2]
            exact HV6.out
          have HB7 : Hid (Below w.heap.size w w7) := ((HBX2.out.alloc (by have := HBX2.out.size; omega) _).grown HG6.out (by have := HBX2.out.size; simp; omega) (fun k e => by have := HNB.out k e; have := HS3.out; omega)).grown hg7 (by have := HBX2.out.size; have := HG6.out.size; simp at this; omega) (by intro k hk; cases hk; omega)
          clear hR7 hg7 hs7 hR6
          go_wp2
          go_roundg Bs.length
          case measure => first | omega | (rw [hgg]; simp)
          case rel => exact ⟨As ++ [T], Bs, .slice o6 (j + 1) c6, _, _, rfl, HA2, rfl, by rw [List.length_append, ← HJ.out]; go_num, HEND, HB7⟩
theorem lcAt_all : ∀ N, LcAtC N := by
  intro N
  induction N using Nat.strongRecOn with
  | _ N IH => exact lcAt_step N IH
end Go.Proofs.Ytbnagagdboeedaa

/-
  Drawn regions with operations behind a guard: the operation that guards them may be taken first, as all that look at it wait for it.
-/
namespace Go.Proofs.Ytbnagagdboeedaa
open Go.RowKit
set_option linter.unusedVariables false

section
variable {P : Program} {ops : Array Oper} {Q : Exit → Act → World → Prop} {md : Region.Mode} {S : World → Prop}
theorem wpAnyH_firstW {i : Nat} {oi : Oper} {v : Value} (hi : ops[i]? = some oi) (hsel : ∀ (j : Nat) (o : Oper) cs b, ops[j]? = some o → o.op ≠ .select cs b)
    (hQ : ∀ c a w, Q (.panic c) (a.put oi.dst v) w → Q (.panic c) a w) (W : List Nat) (hil : i ∉ W) (hwait : ∀ k ∈ W, ∀ ok, ops[k]? = some ok → ∃ e ∈ ok.after, Region.binds md e = true ∧ (e.on = i ∨ e.on ∈ W)) :
    ∀ (fuel : Nat) (listed : Array Bool) (a : Act) (w : World),
      (∀ j oj, ops[j]? = some oj → j ≠ i → j ∉ W → listed.getD j true = false → (∀ e ∈ oj.after, Region.binds md e = true → e.on ≠ i) → oi.apart ops oj = true) →
      (∀ k ∈ W, listed.getD k false = false) → i ∈ Region.ready md ops listed → YieldsIf P ops S oi v a → S w →
      wpAnyH P md ops Q S fuel (listed.setIfInBounds i true) (a.put oi.dst v) w → wpAnyH P md ops Q S (fuel + 1) listed a w := by
  intro fuel
  induction fuel with
  | zero =>
    intro listed a w _ _ hr hy hS H
    refine ⟨fun h => (by rw [h] at hr; cases hr), fun j hj => ?_⟩
    by_cases hji : j = i
    · subst hji; exact hy.wpOp hi hS ⟨hS, H⟩
    · have := ready_mono hj hji
      rw [H.1] at this
      cases this
  | succ fuel ih =>
    intro listed a w hfree hlate hr hy hS H
    refine ⟨fun h => (by rw [h] at hr; cases hr), fun j hj => ?_⟩
    by_cases hji : j = i
    · subst hji; exact hy.wpOp hi hS ⟨hS, H⟩
    · have h1 := H.2 j (ready_mono hj hji)
      obtain ⟨hjun, oj, hoj, hall⟩ := mem_ready.1 hj
      have hnot : ∀ e ∈ oj.after, Region.binds md e = true → e.on ≠ i := fun e he hb heq => by
        have h1 := hall e he hb
        have h0 := (mem_ready.1 hr).1
        rw [heq] at h1
        rcases Nat.lt_or_ge i listed.size with h' | h'
        · simp [h'] at h0 h1; rw [h0] at h1; cases h1
        · simp [Array.getElem?_eq_none h'] at h1
      have hjl : j ∉ W := fun hj' => by
        obtain ⟨e, he, hb, heq⟩ := hwait j hj' oj hoj
        rcases heq with heq | heq
        · exact hnot e he hb heq
        · have := hall e he hb
          rw [hlate _ heq] at this
          cases this
      have h2 := wpOp_putIf hoj (hfree j oj hoj hji hjl hjun hnot) (fun cs b => hsel i oi cs b hi) (fun cs b => hsel j oj cs b hoj) hQ hy h1
      have hfree' : ∀ k ok, ops[k]? = some ok → k ≠ i → k ∉ W → (listed.setIfInBounds j true).getD k true = false →
          (∀ e ∈ ok.after, Region.binds md e = true → e.on ≠ i) → oi.apart ops ok = true := fun k ok hk hki hkW hun hno => by
        refine hfree k ok hk hki hkW ?_ hno
        by_cases hjk : j = k
        · subst hjk; exact hjun
        · rw [getD_set_ne true hjk] at hun; exact hun
      have hlate' : ∀ k ∈ W, (listed.setIfInBounds j true).getD k false = false := fun k hk => by
        rw [getD_set_ne false (fun e => hjl (by rw [e]; exact hk))]; exact hlate k hk
      refine wpOp_mono (fun a' w' h3 => ?_) h2
      have hS' : S w' := h3.2.1
      refine ⟨hS', ih (listed.setIfInBounds j true) a' w' hfree' hlate' (ready_mono hr (Ne.symm hji)) h3.1 hS' ?_⟩
      rw [Array.setIfInBounds_comm _ _ hji]
      exact h3.2.2
/-- All but those of W are apart from it, and those of W wait for it. -/
def freeW (md : Region.Mode) (ops : Array Oper) (listed : Array Bool) (W : List Nat) (i : Nat) : Bool :=
  (match ops[i]? with
  | none => false
  | some oi => (List.range ops.size).all fun j => j == i || W.contains j || listed.getD j true || match ops[j]? with
      | some oj => oj.after.any (fun e => Region.binds md e && e.on == i) || oi.apart ops oj
      | none => true) && (!W.contains i && W.all fun k => !listed.getD k false && match ops[k]? with
    | some ok => ok.after.any fun e => Region.binds md e && (e.on == i || W.contains e.on)
    | none => true)
theorem held_valW {o : Oper} {fuel : Nat} {listed : Array Bool} {a : Act} {w : World} (i : Nat) (d : Option Tmp) (hi : ops[i]? = some o) (hd : o.dst = d) (hs : Region.noSelect ops = true) (W : List Nat) (hf : freeW md ops listed W i = true) (hr : (Region.ready md ops listed).contains i = true)
    (hQ : ∀ c a d v w, Q (.panic c) (Act.put a d v) w → Q (.panic c) a w) (hw : Region.wanted o (yielded ops a.tmps) = true) (v : Value) (hv : ∀ w, S w → (execOp a.eval o).run P w = .ok (.value v) w) (hS : S w)
    (h : wpAnyH P md ops Q S fuel (listed.setIfInBounds i true) (a.put d v) w) : wpAnyH P md ops Q S (fuel + 1) listed a w := by
  subst hd
  unfold freeW at hf
  simp only [Bool.and_eq_true, Bool.not_eq_true', List.all_eq_true, hi, List.mem_range] at hf
  obtain ⟨hf1, hf2, hf3⟩ := hf
  refine wpAnyH_firstW hi (Region.noSelect_spec hs) (fun c a w => hQ c a _ _ w) W (fun h => by simp [h] at hf2) (fun k hk ok hok => ?_) fuel listed a w (fun j oj hj hne hjW hun hno => ?_) (fun k hk => (hf3 k hk).1) (by simpa using hr) (.inl ⟨hw, hv⟩) hS h
  · have h2 := (hf3 k hk).2
    rw [hok] at h2
    simp only [Array.any_eq_true', Bool.and_eq_true, Bool.or_eq_true, beq_iff_eq, List.contains_iff_mem] at h2
    exact h2
  · have h1 := hf1 j (Array.getElem?_eq_some_iff.1 hj).1
    have hc : W.contains j = false := by simpa using hjW
    simp only [hj, Bool.or_eq_true, beq_iff_eq, hne, false_or, hun, hc, Bool.false_eq_true] at h1
    rcases h1 with h1 | h1
    · obtain ⟨e, he, hb⟩ := Array.any_eq_true'.1 h1
      simp only [Bool.and_eq_true, beq_iff_eq] at hb
      exact absurd hb.2 (hno e he hb.1)
    · exact h1
end
end Go.Proofs.Ytbnagagdboeedaa

/-
  The stack of what is to be done then, as closures in memory; the whole term of it.
-/
namespace Go.Proofs.Ytbnagagdboeedaa
open Go.RowKit BL
set_option linter.unusedVariables false

theorem Lm.cl_bd : ∀ {t : Lm} {m : Nat}, t.cl m = true → m + t.sz ≤ 1000000 → t.bd
  | .var n, m, h, hm => by simp [Lm.cl] at h; simp only [Lm.sz] at hm; exact ⟨by omega, by omega⟩
  | .lam t, m, h, hm => Lm.cl_bd (t := t) (m := m + 1) h (by simp only [Lm.sz] at hm; omega)
  | .app s t, m, h, hm => by
    simp only [Lm.cl, Bool.and_eq_true] at h
    simp only [Lm.sz] at hm
    exact ⟨Lm.cl_bd h.1 (by omega), Lm.cl_bd h.2 (by omega)⟩
theorem below_grown {w w' : World} (h : Below w.heap.size w w') (r : Option Nat) : w.grownBy w' r := ⟨h.os, h.tape, h.output, h.size, fun k hk _ => h.block k hk⟩
theorem gr_refl (w : World) (r : Option Nat) : w.grownBy w r := ⟨rfl, rfl, rfl, Nat.le_refl _, fun _ _ _ => rfl⟩
theorem gr_trans {a b c : World} {r : Option Nat} (h1 : a.grownBy b r) (h2 : b.grownBy c r) : a.grownBy c r :=
  ⟨h2.os.trans h1.os, h2.tape.trans h1.tape, h2.output.trans h1.output, Nat.le_trans h1.size h2.size, fun k hk hne => by rw [h2.block k (Nat.lt_of_lt_of_le hk h1.size) hne, h1.block k hk hne]⟩
theorem gr_below {a b c : World} {r : Option Nat} (h1 : a.grownBy b r) (h2 : Below b.heap.size b c) : a.grownBy c r := gr_trans h1 (below_grown h2 r)
/-- The function that brings the second part. -/
def argV (v : Bool) (E : Nat) : Value := if v then .func (.func 75) #[.pointer (some ⟨E, 0, none⟩)] #[] else .func (.func 78) #[] #[]
def EvAt (w : World) (E : Nat) (v : Bool) (fuel n : Nat) : Prop := RowAt w E 91 #[argV v E, .int .i64 (fuel : Int), .int .i64 (n : Int)]
/-- What is to be done then, and the whole term. -/
def StkIn (w : World) (E : Nat) : List Fr → Value → Value → Prop
  | [], d, h => d = .func (.func 120) #[] #[] ∧ h = .func (.func 121) #[] #[]
  | .fst x :: s, d, h => ∃ (be bs bn bx : Nat) (d' h' : Value), (d = .func (.func 117) #[] #[.pointer (some ⟨be, 0, none⟩), .pointer (some ⟨bs, 0, none⟩), .pointer (some ⟨bn, 0, none⟩)] ∧ h = .func (.func 119) #[] #[.pointer (some ⟨bn, 0, none⟩), .pointer (some ⟨bs, 0, none⟩)]) ∧
      (be ≠ E ∧ bs ≠ E ∧ bn ≠ E) ∧ (RowAt w be 144 #[.pointer (some ⟨E, 0, none⟩)] ∧ RowAt w bs 60 #[.pointer (some ⟨bx, 0, none⟩)] ∧ RowAt w bn 94 #[d', h']) ∧ TrIn w (fun y => y ≠ E) x bx ∧ StkIn w E s d' h'
  | .snd f :: s, d, h => ∃ (be bs bn bx : Nat) (d' h' : Value), (d = .func (.func 142) #[] #[.pointer (some ⟨be, 0, none⟩), .pointer (some ⟨bs, 0, none⟩), .pointer (some ⟨bn, 0, none⟩)] ∧ h = .func (.func 144) #[] #[.pointer (some ⟨bn, 0, none⟩), .pointer (some ⟨bs, 0, none⟩)]) ∧
      (be ≠ E ∧ bs ≠ E ∧ bn ≠ E) ∧ (RowAt w be 144 #[.pointer (some ⟨E, 0, none⟩)] ∧ RowAt w bs 60 #[.pointer (some ⟨bx, 0, none⟩)] ∧ RowAt w bn 94 #[d', h']) ∧ TrIn w (fun y => y ≠ E) f bx ∧ StkIn w E s d' h'
theorem row_gr {w w' : World} {E b : Nat} {t : TypeId} {cs : Array Value} (h : RowAt w b t cs) (hg : w.grownBy w' (some E)) (hb : b ≠ E) : RowAt w' b t cs := h.grown hg (fun e => by injection e with e; exact hb e)
theorem StkIn.gr {w w' : World} {E : Nat} (hg : w.grownBy w' (some E)) : ∀ {s : List Fr} {d h : Value}, StkIn w E s d h → StkIn w' E s d h
  | [], d, h, hs => hs
  | .fst x :: s, d, h, ⟨be, bs, bn, bx, d', h', e, ⟨n1, n2, n3⟩, ⟨r1, r2, r3⟩, hT, hs⟩ =>
    ⟨be, bs, bn, bx, d', h', e, ⟨n1, n2, n3⟩, ⟨row_gr r1 hg n1, row_gr r2 hg n2, row_gr r3 hg n3⟩, TrIn.grown hg (fun h => h rfl) hT, StkIn.gr hg hs⟩
  | .snd f :: s, d, h, ⟨be, bs, bn, bx, d', h', e, ⟨n1, n2, n3⟩, ⟨r1, r2, r3⟩, hT, hs⟩ =>
    ⟨be, bs, bn, bx, d', h', e, ⟨n1, n2, n3⟩, ⟨row_gr r1 hg n1, row_gr r2 hg n2, row_gr r3 hg n3⟩, TrIn.grown hg (fun h => h rfl) hT, StkIn.gr hg hs⟩
theorem tr_gr {w w' : World} {E : Nat} {t : Lm} {b : Nat} (hg : w.grownBy w' (some E)) (h : TrIn w (fun y => y ≠ E) t b) : TrIn w' (fun y => y ≠ E) t b := TrIn.grown hg (fun h => h rfl) h
theorem tr_new {w w1 : World} {E : Nat} {t : Lm} {b : Nat} (hE : E < w.heap.size) (h : TrIn w1 (fun x => x ≠ E ∨ w.heap.size ≤ x) t b) : TrIn w1 (fun y => y ≠ E) t b := TrIn.mono (fun x hx _ => by rcases hx with hx | hx; exact hx; omega) h

/-- A tree is answered, in blocks other than the evaluation's. -/
def TreeAns (w : World) (E : Nat) (t : Lm) (e : Ending) (w' : World) : Prop := (∃ b', e = .returned (.pointer (some ⟨b', 0, none⟩)) ∧ TrIn w' (fun y => y ≠ E) t b') ∧ Below w.heap.size w w'
/-- What the function 'whole' of a stack answers. -/
def WhFn (E : Nat) (stk : List Fr) (w0 : World) (h : Value) : Prop := ∃ lf lb, h = .func (.func lf) #[] lb ∧ (∀ args w, (callFunc lf args).run Try.prog w = .ok (.enter lf args) w) ∧ ∀ (t : Lm) (b : Nat) (w : World), w0.grownBy w (some E) → TrIn w (fun y => y ≠ E) t b → (wholeS stk t).sz ≤ 1000000 →
    Calls Try.prog lf (#[.pointer (some ⟨b, 0, none⟩)] ++ lb) w (TreeAns w E (wholeS stk t))
theorem enters_told1 : ∀ args w, (callFunc 120 args).run Try.prog w = .ok (.enter 120 args) w := enters_of Try.func120 (by kernel_rfl) rfl
theorem enters_told2 : ∀ args w, (callFunc 121 args).run Try.prog w = .ok (.enter 121 args) w := enters_of Try.func121 (by kernel_rfl) rfl
theorem enters_bring1 : ∀ args w, (callFunc 117 args).run Try.prog w = .ok (.enter 117 args) w := enters_of Try.func117 (by kernel_rfl) rfl
theorem enters_bring2 : ∀ args w, (callFunc 119 args).run Try.prog w = .ok (.enter 119 args) w := enters_of Try.func119 (by kernel_rfl) rfl
theorem enters_apply1 : ∀ args w, (callFunc 142 args).run Try.prog w = .ok (.enter 142 args) w := enters_of Try.func142 (by kernel_rfl) rfl
theorem enters_apply2 : ∀ args w, (callFunc 144 args).run Try.prog w = .ok (.enter 144 args) w := enters_of Try.func144 (by kernel_rfl) rfl
theorem told2_any (b : Nat) (w : World) : Calls Try.prog 121 #[.pointer (some ⟨b, 0, none⟩)] w fun e w' => e = .returned (.pointer (some ⟨b, 0, none⟩)) ∧ w' = w := by
  go_enter Try.func121, Try.ntmps121
  go_wp2
  go_ret
  exact ⟨rfl, rfl⟩
set_option maxHeartbeats 4000000 in
set_option maxRecDepth 100000 in
theorem bring2_any (E : Nat) (s : List Fr) (x t : Lm) (b bn bs bx lf : Nat) (lb : Array Value) (d' : Value) (w : World) (hE : E < w.heap.size) (eg : ∀ args w, (callFunc lf args).run Try.prog w = .ok (.enter lf args) w)
    (r2 : RowAt w bs 60 #[.pointer (some ⟨bx, 0, none⟩)]) (r3 : RowAt w bn 94 #[d', .func (.func lf) #[] lb]) (hX : TrIn w (fun y => y ≠ E) x bx) (hT : TrIn w (fun y => y ≠ E) t b) (hs1 : t.sz ≤ 1000000) (hs2 : x.sz ≤ 1000000)
    (hc : ∀ (b1 : Nat) (w1 : World), Below w.heap.size w w1 → TrIn w1 (fun y => y ≠ E) (.app t x) b1 → Calls Try.prog lf (#[.pointer (some ⟨b1, 0, none⟩)] ++ lb) w1 (TreeAns w1 E (wholeS s (.app t x)))) :
    Calls Try.prog 119 #[.pointer (some ⟨b, 0, none⟩), .pointer (some ⟨bn, 0, none⟩), .pointer (some ⟨bs, 0, none⟩)] w (TreeAns w E (wholeS s (.app t x))) := by
  have HC := hideT' hc
  have HA := hideT' (application_any t x b bx (fun y => y ≠ E) w.drew (TrIn.keep (w := w) (w' := w.drew) (Nat.le_refl _) (fun _ _ _ => rfl) (fun _ h _ => h) hT) (TrIn.keep (w := w) (w' := w.drew) (Nat.le_refl _) (fun _ _ _ => rfl) (fun _ h _ => h) hX) hs1 hs2)
  have hbs := r2.lt
  have hbn := r3.lt
  have hS : RowAt w.drew bs 60 #[.pointer (some ⟨bx, 0, none⟩)] ∧ RowAt w.drew bn 94 #[d', .func (.func lf) #[] lb] := ⟨r2, r3⟩
  have HR := hideT' (And.intro r2 r3)
  clear hX hT hc r2 r3
  go_enter Try.func119, Try.ntmps119
  go_wp2_with fail
  refine held_begin (fun w' => RowAt w' bs 60 #[.pointer (some ⟨bx, 0, none⟩)] ∧ RowAt w' bn 94 #[d', .func (.func lf) #[] lb]) (by kernel_rfl) ?_
  refine held_valS 0 (some 5) rfl rfl (by kernel_rfl) (by kernel_rfl) (by kernel_rfl) noPanic_put rfl (.pointer (some ⟨bn, 1, none⟩)) (fun _ _ => by go_simp) hS ?_
  simp only [Act.put, List.setIfInBounds_toArray, List.set_cons_zero, List.set_cons_succ]
  refine held_valS 1 (some 6) rfl rfl (by kernel_rfl) (by kernel_rfl) (by kernel_rfl) noPanic_put rfl (.func (.func lf) #[] lb) (fun w' h => by have q : w'.cell? ⟨bn, 1, none⟩ = some (.func (.func lf) #[] lb) := (by rw [cell_of_row w' _ _ _ _ _ h.2]; rfl); go_simp) hS ?_
  simp only [Act.put, List.setIfInBounds_toArray, List.set_cons_zero, List.set_cons_succ]
  refine held_valS 2 (some 7) rfl rfl (by kernel_rfl) (by kernel_rfl) (by kernel_rfl) noPanic_put rfl (.pointer (some ⟨b, 0, none⟩)) (fun _ _ => by go_simp) hS ?_
  simp only [Act.put, List.setIfInBounds_toArray, List.set_cons_zero, List.set_cons_succ]
  refine held_valS 3 (some 8) rfl rfl (by kernel_rfl) (by kernel_rfl) (by kernel_rfl) noPanic_put rfl (.pointer (some ⟨bx, 0, none⟩)) (fun w' h => by have q : w'.cell? ⟨bs, 0, none⟩ = some (.pointer (some ⟨bx, 0, none⟩)) := (by rw [cell_of_row w' _ _ _ _ _ h.1]; rfl); go_simp) hS ?_
  simp only [Act.put, List.setIfInBounds_toArray, List.set_cons_zero, List.set_cons_succ]
  refine held_call 4 (some 9) (by kernel_rfl) rfl rfl rfl 85 (#[.pointer (some ⟨b, 0, none⟩), .pointer (some ⟨bx, 0, none⟩)]) (by go_simp) _ (HA.out) ?_
  rintro e w1 ⟨⟨b1, rfl, hT1⟩, hB1⟩
  have hB1 : Below w.heap.size w w1 := ⟨hB1.os, hB1.tape, hB1.output, hB1.size, hB1.block⟩
  have hS1 : RowAt w1 bs 60 #[.pointer (some ⟨bx, 0, none⟩)] ∧ RowAt w1 bn 94 #[d', .func (.func lf) #[] lb] := ⟨HR.out.1.below hB1 hbs, HR.out.2.below hB1 hbn⟩
  refine ⟨_, rfl, hS1, ?_⟩
  simp only [Act.put, List.setIfInBounds_toArray, List.set_cons_zero, List.set_cons_succ]
  have hT1 : TrIn w1 (fun y => y ≠ E) (.app t x) b1 := tr_new (w := w) hE hT1
  refine held_call 5 (some 10) (by kernel_rfl) rfl rfl rfl lf (_) (by go_simp) _ (HC.out b1 w1 hB1 hT1) ?_
  rintro e w2 ⟨⟨b2, rfl, hT2⟩, hB2⟩
  have hS2 : RowAt w2 bs 60 #[.pointer (some ⟨bx, 0, none⟩)] ∧ RowAt w2 bn 94 #[d', .func (.func lf) #[] lb] := ⟨hS1.1.below hB2 hS1.1.lt, hS1.2.below hB2 hS1.2.lt⟩
  refine ⟨_, rfl, hS2, ?_⟩
  simp only [Act.put, List.setIfInBounds_toArray, List.set_cons_zero, List.set_cons_succ]
  refine held_assign 6 (some 4) (by kernel_rfl) rfl rfl _ rfl rfl (.pointer (some ⟨b2, 0, none⟩)) rfl hS2 ?_
  simp only [Act.put, List.setIfInBounds_toArray, List.set_cons_zero, List.set_cons_succ]
  refine wpAnyH_done (by kernel_rfl) ?_ _
  refine NoPanic.normal ?_
  have HF : Hid (TrIn w2 (fun y => y ≠ E) (wholeS s (.app t x)) b2 ∧ Below w.heap.size w w2) := ⟨hT2, hB1.trans (hB2.mono hB1.size)⟩
  clear hT1 hB1 hT2 hB2 hS hS1 hS2
  go_wp2
  go_ret
  exact ⟨⟨b2, rfl, HF.out.1⟩, HF.out.2⟩
set_option maxHeartbeats 4000000 in
set_option maxRecDepth 100000 in
theorem apply2_any (E : Nat) (s : List Fr) (f t : Lm) (b bn bs bx lf : Nat) (lb : Array Value) (d' : Value) (w : World) (hE : E < w.heap.size) (eg : ∀ args w, (callFunc lf args).run Try.prog w = .ok (.enter lf args) w)
    (r2 : RowAt w bs 60 #[.pointer (some ⟨bx, 0, none⟩)]) (r3 : RowAt w bn 94 #[d', .func (.func lf) #[] lb]) (hX : TrIn w (fun y => y ≠ E) f bx) (hT : TrIn w (fun y => y ≠ E) t b) (hs1 : t.sz ≤ 1000000) (hs2 : f.sz ≤ 1000000)
    (hc : ∀ (b1 : Nat) (w1 : World), Below w.heap.size w w1 → TrIn w1 (fun y => y ≠ E) (.app f t) b1 → Calls Try.prog lf (#[.pointer (some ⟨b1, 0, none⟩)] ++ lb) w1 (TreeAns w1 E (wholeS s (.app f t)))) :
    Calls Try.prog 144 #[.pointer (some ⟨b, 0, none⟩), .pointer (some ⟨bn, 0, none⟩), .pointer (some ⟨bs, 0, none⟩)] w (TreeAns w E (wholeS s (.app f t))) := by
  have HC := hideT' hc
  have HA := hideT' (application_any f t bx b (fun y => y ≠ E) w.drew (TrIn.keep (w := w) (w' := w.drew) (Nat.le_refl _) (fun _ _ _ => rfl) (fun _ h _ => h) hX) (TrIn.keep (w := w) (w' := w.drew) (Nat.le_refl _) (fun _ _ _ => rfl) (fun _ h _ => h) hT) hs2 hs1)
  have hbs := r2.lt
  have hbn := r3.lt
  have hS : RowAt w.drew bs 60 #[.pointer (some ⟨bx, 0, none⟩)] ∧ RowAt w.drew bn 94 #[d', .func (.func lf) #[] lb] := ⟨r2, r3⟩
  have HR := hideT' (And.intro r2 r3)
  clear hX hT hc r2 r3
  go_enter Try.func144, Try.ntmps144
  go_wp2_with fail
  refine held_begin (fun w' => RowAt w' bs 60 #[.pointer (some ⟨bx, 0, none⟩)] ∧ RowAt w' bn 94 #[d', .func (.func lf) #[] lb]) (by kernel_rfl) ?_
  refine held_valS 0 (some 5) rfl rfl (by kernel_rfl) (by kernel_rfl) (by kernel_rfl) noPanic_put rfl (.pointer (some ⟨bn, 1, none⟩)) (fun _ _ => by go_simp) hS ?_
  simp only [Act.put, List.setIfInBounds_toArray, List.set_cons_zero, List.set_cons_succ]
  refine held_valS 1 (some 6) rfl rfl (by kernel_rfl) (by kernel_rfl) (by kernel_rfl) noPanic_put rfl (.func (.func lf) #[] lb) (fun w' h => by have q : w'.cell? ⟨bn, 1, none⟩ = some (.func (.func lf) #[] lb) := (by rw [cell_of_row w' _ _ _ _ _ h.2]; rfl); go_simp) hS ?_
  simp only [Act.put, List.setIfInBounds_toArray, List.set_cons_zero, List.set_cons_succ]
  refine held_valS 2 (some 7) rfl rfl (by kernel_rfl) (by kernel_rfl) (by kernel_rfl) noPanic_put rfl (.pointer (some ⟨bx, 0, none⟩)) (fun w' h => by have q : w'.cell? ⟨bs, 0, none⟩ = some (.pointer (some ⟨bx, 0, none⟩)) := (by rw [cell_of_row w' _ _ _ _ _ h.1]; rfl); go_simp) hS ?_
  simp only [Act.put, List.setIfInBounds_toArray, List.set_cons_zero, List.set_cons_succ]
  refine held_valS 3 (some 8) rfl rfl (by kernel_rfl) (by kernel_rfl) (by kernel_rfl) noPanic_put rfl (.pointer (some ⟨b, 0, none⟩)) (fun _ _ => by go_simp) hS ?_
  simp only [Act.put, List.setIfInBounds_toArray, List.set_cons_zero, List.set_cons_succ]
  refine held_call 4 (some 9) (by kernel_rfl) rfl rfl rfl 85 (#[.pointer (some ⟨bx, 0, none⟩), .pointer (some ⟨b, 0, none⟩)]) (by go_simp) _ (HA.out) ?_
  rintro e w1 ⟨⟨b1, rfl, hT1⟩, hB1⟩
  have hB1 : Below w.heap.size w w1 := ⟨hB1.os, hB1.tape, hB1.output, hB1.size, hB1.block⟩
  have hS1 : RowAt w1 bs 60 #[.pointer (some ⟨bx, 0, none⟩)] ∧ RowAt w1 bn 94 #[d', .func (.func lf) #[] lb] := ⟨HR.out.1.below hB1 hbs, HR.out.2.below hB1 hbn⟩
  refine ⟨_, rfl, hS1, ?_⟩
  simp only [Act.put, List.setIfInBounds_toArray, List.set_cons_zero, List.set_cons_succ]
  have hT1 : TrIn w1 (fun y => y ≠ E) (.app f t) b1 := tr_new (w := w) hE hT1
  refine held_call 5 (some 10) (by kernel_rfl) rfl rfl rfl lf (_) (by go_simp) _ (HC.out b1 w1 hB1 hT1) ?_
  rintro e w2 ⟨⟨b2, rfl, hT2⟩, hB2⟩
  have hS2 : RowAt w2 bs 60 #[.pointer (some ⟨bx, 0, none⟩)] ∧ RowAt w2 bn 94 #[d', .func (.func lf) #[] lb] := ⟨hS1.1.below hB2 hS1.1.lt, hS1.2.below hB2 hS1.2.lt⟩
  refine ⟨_, rfl, hS2, ?_⟩
  simp only [Act.put, List.setIfInBounds_toArray, List.set_cons_zero, List.set_cons_succ]
  refine held_assign 6 (some 4) (by kernel_rfl) rfl rfl _ rfl rfl (.pointer (some ⟨b2, 0, none⟩)) rfl hS2 ?_
  simp only [Act.put, List.setIfInBounds_toArray, List.set_cons_zero, List.set_cons_succ]
  refine wpAnyH_done (by kernel_rfl) ?_ _
  refine NoPanic.normal ?_
  have HF : Hid (TrIn w2 (fun y => y ≠ E) (wholeS s (.app f t)) b2 ∧ Below w.heap.size w w2) := ⟨hT2, hB1.trans (hB2.mono hB1.size)⟩
  clear hT1 hB1 hT2 hB2 hS hS1 hS2
  go_wp2
  go_ret
  exact ⟨⟨b2, rfl, HF.out.1⟩, HF.out.2⟩
theorem sz_whole (s : List Fr) (t : Lm) : t.sz ≤ (wholeS s t).sz := by have := whole_sz s t; omega
theorem whole_fn (E : Nat) : ∀ (stk : List Fr) (d h : Value) (w0 : World), StkIn w0 E stk d h → E < w0.heap.size → WhFn E stk w0 h
  | [], d, h, w0, hs, hE => by
    obtain ⟨_, rfl⟩ := hs
    refine ⟨_, _, rfl, enters_told2, fun t b w hg hT hsz => (told2_any b w).mono ?_⟩
    rintro e w' ⟨rfl, rfl⟩
    exact ⟨⟨b, rfl, hT⟩, Below.refl _ _⟩
  | .fst x :: s, d, h, w0, hs, hE => by
    obtain ⟨be, bs, bn, bx, d', h', ⟨_, rfl⟩, ⟨n1, n2, n3⟩, ⟨r1, r2, r3⟩, hX, hs'⟩ := hs
    obtain ⟨lf, lb, rfl, eg, hc⟩ := whole_fn E s d' h' w0 hs' hE
    refine ⟨_, _, rfl, enters_bring2, fun t b w hg hT hsz => ?_⟩
    have h1 := sz_whole s (.app t x)
    simp only [wholeS, Fr.plug] at hsz
    simp only [Lm.sz] at h1
    exact bring2_any E s x t b bn bs bx lf lb d' w (by have := hg.size; omega) eg (row_gr r2 hg n2) (row_gr r3 hg n3) (tr_gr hg hX) hT (by omega) (by omega) (fun b1 w1 hB1 hT1 => hc (.app t x) b1 w1 (gr_below hg hB1) hT1 hsz)
  | .snd f :: s, d, h, w0, hs, hE => by
    obtain ⟨be, bs, bn, bx, d', h', ⟨_, rfl⟩, ⟨n1, n2, n3⟩, ⟨r1, r2, r3⟩, hX, hs'⟩ := hs
    obtain ⟨lf, lb, rfl, eg, hc⟩ := whole_fn E s d' h' w0 hs' hE
    refine ⟨_, _, rfl, enters_apply2, fun t b w hg hT hsz => ?_⟩
    have h1 := sz_whole s (.app f t)
    simp only [wholeS, Fr.plug] at hsz
    simp only [Lm.sz] at h1
    exact apply2_any E s f t b bn bs bx lf lb d' w (by have := hg.size; omega) eg (row_gr r2 hg n2) (row_gr r3 hg n3) (tr_gr hg hX) hT (by omega) (by omega) (fun b1 w1 hB1 hT1 => hc (.app f t) b1 w1 (gr_below hg hB1) hT1 hsz)
end Go.Proofs.Ytbnagagdboeedaa

/-
  What lfStep of the model makes.
-/
namespace Go.Proofs.Ytbnagagdboeedaa
open Go.RowKit BL
set_option linter.unusedVariables false

def StOut (w : World) (r : Option Lm) (P : Nat → Prop) (e : Ending) (w' : World) : Prop := match r with
  | none => ∃ k n o m c, e = .returned (.tuple #[.agg (lcC k n (.slice o m c)), .bool false])
  | some s => ∃ z', e = .returned (.tuple #[.agg (lcC s.kd s.nm z'), .bool true]) ∧ LcIn w' (fun x => P x ∨ w.heap.size ≤ x) s z'
def StC (v : Bool) (N : Nat) : Prop := ∀ (t : Lm), t.sz ≤ N → ∀ (z : Value) (P : Nat → Prop) (w : World), LcIn w P t z → t.cl 0 = true → t.sz ≤ 400 →
    Calls Try.prog 124 #[.agg (lcC t.kd t.nm z), .bool v] w fun e w' => StOut w (t.stp v) P e w' ∧ Below w.heap.size w w'
theorem stp_some {v : Bool} {f x f' : Lm} (h : f.stp v = some f') : (Lm.app f x).stp v = some (.app f' x) := by simp [Lm.stp, h]
theorem stp_arg {f x x' : Lm} (h : f.stp true = none) (hx : x.stp true = some x') : (Lm.app f x).stp true = some (.app f x') := by simp [Lm.stp, h, hx]
theorem stp_here {f x : Lm} (h : f.stp true = none) (hx : x.stp true = none) : (Lm.app f x).stp true = some (Lm.app f x).beta := by simp [Lm.stp, h, hx]
theorem stp_name {f x : Lm} (h : f.stp false = none) : (Lm.app f x).stp false = some (Lm.app f x).beta := by simp [Lm.stp, h]
set_option maxHeartbeats 16000000 in
set_option maxRecDepth 100000 in
theorem lfStep_step (v : Bool) (N : Nat) (IH : ∀ n, n < N → StC v n) : StC v N := by
  intro t ht z P w hz hcl hsz
  have HIH := hideT' IH
  have hz0 := zero_lcT.1
  clear IH
  by_cases hk : t.kd = 3
  · cases t with
    | var n => simp [Lm.kd] at hk
    | lam u => simp [Lm.kd] at hk
    | app f x =>
      obtain ⟨g, cz, zf, zx, rfl, ⟨hgl, hgP⟩, ⟨a0, a1, a2⟩, ⟨e0, e1, e2⟩, hzf, hzx⟩ := hz
      obtain ⟨fo, fc, rfl⟩ := hzf.form
      obtain ⟨xo, xc, rfl⟩ := hzx.form
      have HZT : Hid (LcIn w P (.app f x) (.slice (some ⟨g, 0, none⟩) 2 cz)) := ⟨g, cz, _, _, rfl, ⟨hgl, hgP⟩, ⟨a0, a1, a2⟩, ⟨e0, e1, e2⟩, hzf, hzx⟩
      have hcl' := hcl
      simp only [Lm.cl, Bool.and_eq_true] at hcl
      simp only [Lm.sz] at ht hsz
      have hfp := f.sz_pos
      have hxp := x.sz_pos
      obtain ⟨W, hWd⟩ : ∃ W, W = ((((w.alloc (.cells #[.int .i64 3, .int .i64 0, .slice (some ⟨g, 0, none⟩) 2 cz] 54)).alloc (.cells #[.int .i64 0, .int .i64 0, .slice none 0 0] 54)).alloc (.cells #[.int .i64 f.kd, .int .i64 f.nm, .slice fo f.kids.length fc] 54)).alloc (.cells #[.int .i64 x.kd, .int .i64 x.nm, .slice xo x.kids.length xc] 54)) := ⟨_, rfl⟩
      have hBW : Below w.heap.size w W := by rw [hWd]; exact ((((Below.refl _ _).alloc (Nat.le_refl _) _).alloc (by simp) _).alloc (by simp; omega) _).alloc (by simp; omega) _
      have hWs : W.heap.size = w.heap.size + 4 := by rw [hWd]; simp
      have RT : RowAt W w.heap.size 54 #[.int .i64 3, .int .i64 0, .slice (some ⟨g, 0, none⟩) 2 cz] := by rw [hWd]; exact RowAt.old (RowAt.old (RowAt.old (RowAt.new _ _ _) _) _) _
      have RZ : RowAt W (w.heap.size + 1) 54 #[.int .i64 0, .int .i64 0, .slice none 0 0] := by
        rw [hWd]
        have := RowAt.new (w.alloc (.cells #[.int .i64 3, .int .i64 0, .slice (some ⟨g, 0, none⟩) 2 cz] 54)) 54 #[.int .i64 0, .int .i64 0, .slice none 0 0]
        rw [World.size_alloc] at this
        exact RowAt.old (RowAt.old this _) _
      have RF : RowAt W (w.heap.size + 1 + 1) 54 #[.int .i64 f.kd, .int .i64 f.nm, .slice fo f.kids.length fc] := by
        rw [hWd]
        have := RowAt.new ((w.alloc (.cells #[.int .i64 3, .int .i64 0, .slice (some ⟨g, 0, none⟩) 2 cz] 54)).alloc (.cells #[.int .i64 0, .int .i64 0, .slice none 0 0] 54)) 54 #[.int .i64 f.kd, .int .i64 f.nm, .slice fo f.kids.length fc]
        rw [World.size_alloc, World.size_alloc] at this
        exact RowAt.old this _
      have RX : RowAt W (w.heap.size + 1 + 1 + 1) 54 #[.int .i64 x.kd, .int .i64 x.nm, .slice xo x.kids.length xc] := by
        rw [hWd]
        have := RowAt.new (((w.alloc (.cells #[.int .i64 3, .int .i64 0, .slice (some ⟨g, 0, none⟩) 2 cz] 54)).alloc (.cells #[.int .i64 0, .int .i64 0, .slice none 0 0] 54)).alloc (.cells #[.int .i64 f.kd, .int .i64 f.nm, .slice fo f.kids.length fc] 54)) 54 #[.int .i64 x.kd, .int .i64 x.nm, .slice xo x.kids.length xc]
        rwa [World.size_alloc, World.size_alloc, World.size_alloc] at this
      have HROW := hideT' (And.intro RT (And.intro RZ (And.intro RF RX)))
      have ZF : LcIn W (fun y => (P y ∧ y < w.heap.size) ∨ w.heap.size + 2 ≤ y) f (.slice fo f.kids.length fc) := LcIn.keep (w := w) hBW.size (fun y _ hl => hBW.block y hl) (fun y h hl => .inl ⟨h, hl⟩) hzf
      have ZX : LcIn W (fun y => (P y ∧ y < w.heap.size) ∨ w.heap.size + 2 ≤ y) x (.slice xo x.kids.length xc) := LcIn.keep (w := w) hBW.size (fun y _ hl => hBW.block y hl) (fun y h hl => .inl ⟨h, hl⟩) hzx
      have ZT : LcIn W (fun y => (P y ∧ y < w.heap.size) ∨ w.heap.size + 2 ≤ y) (.app f x) (.slice (some ⟨g, 0, none⟩) 2 cz) := LcIn.keep (w := w) hBW.size (fun y _ hl => hBW.block y hl) (fun y h hl => .inl ⟨h, hl⟩) HZT.out
      have HZZ := hideT' (And.intro ZF (And.intro ZX ZT))
      have HC1 := hideT' (HIH.out f.sz (by omega) f (Nat.le_refl _) _ _ W ZF hcl.1 (by omega))
      have HCX : Hid (∀ w', Below W.heap.size W w' → Calls Try.prog 124 #[.agg (lcC x.kd x.nm (.slice xo x.kids.length xc)), .bool v] w' fun e w'' => StOut w' (x.stp v) (fun y => (P y ∧ y < w.heap.size) ∨ w.heap.size + 2 ≤ y) e w'' ∧ Below w'.heap.size w' w'') :=
        fun w' hB => HIH.out x.sz (by omega) x (Nat.le_refl _) _ _ w' (LcIn.below hB ZX) hcl.2 (by omega)
      have HCB : Hid (f.isLam = true → ∀ w', Below W.heap.size W w' → Calls Try.prog 100 #[.agg (lcC 3 0 (.slice (some ⟨g, 0, none⟩) 2 cz))] w' fun e w'' => (∃ z', e = .returned (.agg (lcC (Lm.app f x).beta.kd (Lm.app f x).beta.nm z')) ∧ LcIn w'' (fun y => (fun y => (P y ∧ y < w.heap.size) ∨ w.heap.size + 2 ≤ y) y ∨ w'.heap.size ≤ y) (Lm.app f x).beta z') ∧ Below w'.heap.size w' w'') :=
        fun hl w' hB => lcBeta_any (.app f x) _ _ w' (LcIn.below hB ZT) (by simpa [Lm.isRed] using hl) (by simp only [Lm.sz]; omega) (Lm.cl_bd (m := 0) hcl' (by simp only [Lm.sz]; omega))
      have HFL : Hid (f.stp v = none → f.isLam = true) := fun h => Lm.stp_none hcl.1 h
      have HBW := hideT' hBW
      have c0 : ((w.alloc (.cells #[.int .i64 3, .int .i64 0, .slice (some ⟨g, 0, none⟩) 2 cz] 54)).alloc (.cells #[.int .i64 0, .int .i64 0, .slice none 0 0] 54)).cell? ⟨g, 0, none⟩ = some (.int .i64 f.kd) := by rw [World.cell?_of_block (w := w) (a := ⟨g, 0, none⟩) ((((Below.refl w.heap.size w).alloc (Nat.le_refl _) _).alloc (by simp) _).block g hgl)]; exact a0
      have c1 : ((w.alloc (.cells #[.int .i64 3, .int .i64 0, .slice (some ⟨g, 0, none⟩) 2 cz] 54)).alloc (.cells #[.int .i64 0, .int .i64 0, .slice none 0 0] 54)).cell? ⟨g, 1, none⟩ = some (.int .i64 f.nm) := by rw [World.cell?_of_block (w := w) (a := ⟨g, 1, none⟩) ((((Below.refl w.heap.size w).alloc (Nat.le_refl _) _).alloc (by simp) _).block g hgl)]; exact a1
      have c2 : ((w.alloc (.cells #[.int .i64 3, .int .i64 0, .slice (some ⟨g, 0, none⟩) 2 cz] 54)).alloc (.cells #[.int .i64 0, .int .i64 0, .slice none 0 0] 54)).cell? ⟨g, 2, none⟩ = some (.slice fo f.kids.length fc) := by rw [World.cell?_of_block (w := w) (a := ⟨g, 2, none⟩) ((((Below.refl w.heap.size w).alloc (Nat.le_refl _) _).alloc (by simp) _).block g hgl)]; exact a2
      have d0 : (((w.alloc (.cells #[.int .i64 3, .int .i64 0, .slice (some ⟨g, 0, none⟩) 2 cz] 54)).alloc (.cells #[.int .i64 0, .int .i64 0, .slice none 0 0] 54)).alloc (.cells #[.int .i64 f.kd, .int .i64 f.nm, .slice fo f.kids.length fc] 54)).cell? ⟨g, 3, none⟩ = some (.int .i64 x.kd) := by rw [World.cell?_of_block (w := w) (a := ⟨g, 3, none⟩) (((((Below.refl w.heap.size w).alloc (Nat.le_refl _) _).alloc (by simp) _).alloc (by simp; omega) _).block g hgl)]; exact e0
      have d1 : (((w.alloc (.cells #[.int .i64 3, .int .i64 0, .slice (some ⟨g, 0, none⟩) 2 cz] 54)).alloc (.cells #[.int .i64 0, .int .i64 0, .slice none 0 0] 54)).alloc (.cells #[.int .i64 f.kd, .int .i64 f.nm, .slice fo f.kids.length fc] 54)).cell? ⟨g, 4, none⟩ = some (.int .i64 x.nm) := by rw [World.cell?_of_block (w := w) (a := ⟨g, 4, none⟩) (((((Below.refl w.heap.size w).alloc (Nat.le_refl _) _).alloc (by simp) _).alloc (by simp; omega) _).block g hgl)]; exact e1
      have d2 : (((w.alloc (.cells #[.int .i64 3, .int .i64 0, .slice (some ⟨g, 0, none⟩) 2 cz] 54)).alloc (.cells #[.int .i64 0, .int .i64 0, .slice none 0 0] 54)).alloc (.cells #[.int .i64 f.kd, .int .i64 f.nm, .slice fo f.kids.length fc] 54)).cell? ⟨g, 5, none⟩ = some (.slice xo x.kids.length xc) := by rw [World.cell?_of_block (w := w) (a := ⟨g, 5, none⟩) (((((Below.refl w.heap.size w).alloc (Nat.le_refl _) _).alloc (by simp) _).alloc (by simp; omega) _).block g hgl)]; exact e2
      unfold lcC at HC1
      clear hzf hzx hcl hcl' ht hsz hfp hxp hBW RT RZ RF RX ZF ZX ZT a0 a1 a2 e0 e1 e2 hgP hk
      show Calls Try.prog 124 #[.agg #[.int .i64 3, .int .i64 0, .slice (some ⟨g, 0, none⟩) 2 cz], .bool v] w _
      go_enter Try.func124, Try.ntmps124
      go_wp2_with fail
      rw [← hWd]
      refine HC1.out.mono ?_
      rintro e w5 ⟨hans, hB5⟩
      have HB5 := hideT' hB5
      have hs5 := hB5.size
      clear c0 c1 c2 d0 d1 d2 hWd hB5
      cases hf : f.stp v with
      | some f' =>
        rw [hf] at hans
        obtain ⟨z5, rfl, hz5⟩ := hans
        obtain ⟨o5, c5, rfl⟩ := hz5.form
        have HE := hideT' (stp_some (x := x) hf)
        obtain ⟨w6, hw6⟩ : ∃ w6, w6 = w5.alloc (.cells #[.int .i64 f'.kd, .int .i64 f'.nm, .slice o5 f'.kids.length c5] 54) := ⟨_, rfl⟩
        have hB6 : Below W.heap.size W w6 := by rw [hw6]; exact HB5.out.alloc (by omega) _
        have hX6 : RowAt w6 (w.heap.size + 1 + 1 + 1) 54 #[.int .i64 x.kd, .int .i64 x.nm, .slice xo x.kids.length xc] := HROW.out.2.2.2.below hB6 (by omega)
        have hZ6 : LcIn w6 (fun y => (P y ∧ y < w.heap.size) ∨ w.heap.size + 2 ≤ y) f' (.slice o5 f'.kids.length c5) := by rw [hw6]; exact LcIn.below ((Below.refl _ _).alloc (Nat.le_refl _) _) (LcIn.mono (fun y hy _ => by rcases hy with hy | hy; exact hy; exact .inr (by omega)) hz5)
        have hX6' : LcIn w6 (fun y => (P y ∧ y < w.heap.size) ∨ w.heap.size + 2 ≤ y) x (.slice xo x.kids.length xc) := LcIn.below hB6 HZZ.out.2.1
        have q0 : (w5.alloc (.cells #[.int .i64 f'.kd, .int .i64 f'.nm, .slice o5 f'.kids.length c5] 54)).cell? ⟨w.heap.size + 1 + 1 + 1, 0, none⟩ = some (.int .i64 x.kd) := by rw [← hw6, cell_of_row _ _ _ _ _ _ hX6]; rfl
        have q1 : (w5.alloc (.cells #[.int .i64 f'.kd, .int .i64 f'.nm, .slice o5 f'.kids.length c5] 54)).cell? ⟨w.heap.size + 1 + 1 + 1, 1, none⟩ = some (.int .i64 x.nm) := by rw [← hw6, cell_of_row _ _ _ _ _ _ hX6]; rfl
        have q2 : (w5.alloc (.cells #[.int .i64 f'.kd, .int .i64 f'.nm, .slice o5 f'.kids.length c5] 54)).cell? ⟨w.heap.size + 1 + 1 + 1, 2, none⟩ = some (.slice xo x.kids.length xc) := by rw [← hw6, cell_of_row _ _ _ _ _ _ hX6]; rfl
        have hwl : w.heap.size + 1 + 1 + 1 < w5.heap.size := by omega
        unfold lcC
        have HC7 := hideT' (lcApp_any f' x _ _ (fun y => (P y ∧ y < w.heap.size) ∨ w.heap.size + 2 ≤ y) w6 hZ6 hX6')
        unfold lcC at HC7
        have HRZ7 : Hid (RowAt w6 (w.heap.size + 1) 54 #[.int .i64 0, .int .i64 0, .slice none 0 0]) := HROW.out.2.1.below hB6 (by omega)
        have HB7 : Hid (Below w.heap.size w w6 ∧ w.heap.size + 2 ≤ w6.heap.size) := ⟨HBW.out.trans (hB6.mono HBW.out.size), by have := hB6.size; omega⟩
        go_wp2_with fail
        rw [← hw6]
        refine HC7.out.mono ?_
        rintro e v7 ⟨⟨z7, rfl, hz7⟩, hw7⟩
        obtain ⟨o7, c7, hzz⟩ : ∃ o c, z7 = .slice o 2 c := hz7.form
        subst hzz
        have HV7 : Hid (LcIn v7 (fun y => (P y ∧ y < w.heap.size) ∨ w.heap.size + 2 ≤ y) (.app f' x) (.slice o7 2 c7)) := LcIn.mono (fun y hy _ => by have := HB7.out.2; rcases hy with hy | hy; exact hy; exact .inr (by omega)) hz7
        have HRV7 : Hid (RowAt v7 (w.heap.size + 1) 54 #[.int .i64 0, .int .i64 0, .slice none 0 0]) := HRZ7.out.below hw7 HRZ7.out.lt
        have HBV7 : Hid (Below w.heap.size w v7) := HB7.out.1.trans (hw7.mono HB7.out.1.size)
        clear hz7 hw7
        go_wp2_with (refine store_3 rfl 54 _ _ rfl rfl zero_lcT.2 (w.heap.size + 1) (lcC 3 0 (.slice o7 2 c7)) rfl (lcC_one _ _ _ rfl) rfl rfl #[.int .i64 0, .int .i64 0, .slice none 0 0] rfl HRV7.out ?_; intro w9 hR9 hg9 hs9)
        refine bodyPost_ret (v := .tuple #[.agg (lcC 3 0 (.slice o7 2 c7)), .bool true]) (res_lc_tmp Try.results124 _ _ (w.heap.size + 1) 3 0 (.slice o7 2 c7) (.bool true) rfl rfl hR9) rfl ⟨?_, HBV7.out.grown hg9 HBV7.out.size (fun k e => by cases e; omega)⟩
        rw [HE.out]
        refine ⟨.slice o7 2 c7, rfl, ?_⟩
        exact LcIn.keep (w := v7) (by omega) (fun y hy hl => hg9.block y hl (by intro e; injection e with e; rcases hy with hy | hy <;> omega)) (fun y hy _ => by rcases hy with hy | hy; exact .inl hy.1; exact .inr (by omega)) HV7.out
      | none =>
        rw [hf] at hans
        obtain ⟨k5, n5, o5, m5, c5, rfl⟩ := hans
        have hlm := HFL.out hf
        obtain ⟨w6, hw6⟩ : ∃ w6, w6 = w5.alloc (.cells #[.int .i64 k5, .int .i64 n5, .slice o5 m5 c5] 54) := ⟨_, rfl⟩
        have hB6 : Below W.heap.size W w6 := by rw [hw6]; exact HB5.out.alloc (by omega) _
        have hX6 : RowAt w6 (w.heap.size + 1 + 1 + 1) 54 #[.int .i64 x.kd, .int .i64 x.nm, .slice xo x.kids.length xc] := HROW.out.2.2.2.below hB6 (by omega)
        have hT6 : RowAt w6 w.heap.size 54 #[.int .i64 3, .int .i64 0, .slice (some ⟨g, 0, none⟩) 2 cz] := HROW.out.1.below hB6 (by omega)
        have hwl : w.heap.size + 1 + 1 + 1 < w5.heap.size := by omega
        have hwl2 : w.heap.size < w5.heap.size := by omega
        unfold lcC
        cases v with
        | false =>
          have HE := hideT' (stp_name (x := x) hf)
          have q0 : (w5.alloc (.cells #[.int .i64 k5, .int .i64 n5, .slice o5 m5 c5] 54)).cell? ⟨w.heap.size, 0, none⟩ = some (.int .i64 3) := by rw [← hw6, cell_of_row _ _ _ _ _ _ hT6]; rfl
          have q1 : (w5.alloc (.cells #[.int .i64 k5, .int .i64 n5, .slice o5 m5 c5] 54)).cell? ⟨w.heap.size, 1, none⟩ = some (.int .i64 0) := by rw [← hw6, cell_of_row _ _ _ _ _ _ hT6]; rfl
          have q2 : (w5.alloc (.cells #[.int .i64 k5, .int .i64 n5, .slice o5 m5 c5] 54)).cell? ⟨w.heap.size, 2, none⟩ = some (.slice (some ⟨g, 0, none⟩) 2 cz) := by rw [← hw6, cell_of_row _ _ _ _ _ _ hT6]; rfl
          have HC7 := hideT' (HCB.out hlm w6 hB6)
          unfold lcC at HC7
          have HRZ7 : Hid (RowAt w6 (w.heap.size + 1) 54 #[.int .i64 0, .int .i64 0, .slice none 0 0]) := HROW.out.2.1.below hB6 (by omega)
          have HB7 : Hid (Below w.heap.size w w6 ∧ w.heap.size + 2 ≤ w6.heap.size) := ⟨HBW.out.trans (hB6.mono HBW.out.size), by have := hB6.size; omega⟩
          go_wp2_with fail
          rw [← hw6]
          refine HC7.out.mono ?_
          rintro e v7 ⟨⟨z7, rfl, hz7⟩, hw7⟩
          obtain ⟨o7, c7, hzz⟩ : ∃ o c, z7 = .slice o (Lm.app f x).beta.kids.length c := hz7.form
          subst hzz
          have HV7 : Hid (LcIn v7 (fun y => (P y ∧ y < w.heap.size) ∨ w.heap.size + 2 ≤ y) (Lm.app f x).beta (.slice o7 (Lm.app f x).beta.kids.length c7)) := LcIn.mono (fun y hy _ => by have := HB7.out.2; rcases hy with hy | hy; exact hy; exact .inr (by omega)) hz7
          have HRV7 : Hid (RowAt v7 (w.heap.size + 1) 54 #[.int .i64 0, .int .i64 0, .slice none 0 0]) := HRZ7.out.below hw7 HRZ7.out.lt
          have HBV7 : Hid (Below w.heap.size w v7) := HB7.out.1.trans (hw7.mono HB7.out.1.size)
          obtain ⟨kk, hkk⟩ : ∃ k, k = (Lm.app f x).beta.kd := ⟨_, rfl⟩
          obtain ⟨nn, hnn⟩ : ∃ k, k = (Lm.app f x).beta.nm := ⟨_, rfl⟩
          obtain ⟨mm, hmm⟩ : ∃ k, k = (Lm.app f x).beta.kids.length := ⟨_, rfl⟩
          have HKN : Hid ((Lm.app f x).beta.kd = kk ∧ (Lm.app f x).beta.nm = nn) := ⟨hkk.symm, hnn.symm⟩
          rw [← hkk, ← hnn, ← hmm]
          rw [← hmm] at HV7
          clear hz7 hw7 hkk hnn hmm
          go_wp2_with (refine store_3 rfl 54 _ _ rfl rfl zero_lcT.2 (w.heap.size + 1) (lcC kk nn (.slice o7 mm c7)) rfl (lcC_one _ _ _ rfl) rfl rfl #[.int .i64 0, .int .i64 0, .slice none 0 0] rfl HRV7.out ?_; intro w9 hR9 hg9 hs9)
          refine bodyPost_ret (v := .tuple #[.agg (lcC kk nn (.slice o7 mm c7)), .bool true]) (res_lc_tmp Try.results124 _ _ (w.heap.size + 1) kk nn (.slice o7 mm c7) (.bool true) rfl rfl hR9) rfl ⟨?_, HBV7.out.grown hg9 HBV7.out.size (fun k e => by cases e; omega)⟩
          rw [HE.out]
          refine ⟨.slice o7 mm c7, by rw [HKN.out.1, HKN.out.2], ?_⟩
          exact LcIn.keep (w := v7) (by omega) (fun y hy hl => hg9.block y hl (by intro e; injection e with e; rcases hy with hy | hy <;> omega)) (fun y hy _ => by rcases hy with hy | hy; exact .inl hy.1; exact .inr (by omega)) HV7.out
        | true =>
          have q0 : (w5.alloc (.cells #[.int .i64 k5, .int .i64 n5, .slice o5 m5 c5] 54)).cell? ⟨w.heap.size + 1 + 1 + 1, 0, none⟩ = some (.int .i64 x.kd) := by rw [← hw6, cell_of_row _ _ _ _ _ _ hX6]; rfl
          have q1 : (w5.alloc (.cells #[.int .i64 k5, .int .i64 n5, .slice o5 m5 c5] 54)).cell? ⟨w.heap.size + 1 + 1 + 1, 1, none⟩ = some (.int .i64 x.nm) := by rw [← hw6, cell_of_row _ _ _ _ _ _ hX6]; rfl
          have q2 : (w5.alloc (.cells #[.int .i64 k5, .int .i64 n5, .slice o5 m5 c5] 54)).cell? ⟨w.heap.size + 1 + 1 + 1, 2, none⟩ = some (.slice xo x.kids.length xc) := by rw [← hw6, cell_of_row _ _ _ _ _ _ hX6]; rfl
          have HC2 := hideT' (HCX.out w6 hB6)
          unfold lcC at HC2
          have HB6 := hideT' hB6
          have hs6 := hB6.size
          clear hB6 hX6 hT6
          go_wp2_with fail
          rw [← hw6]
          refine HC2.out.mono ?_
          rintro e w7 ⟨hans, hB7⟩
          have hB7' : Below W.heap.size W w7 := HB6.out.trans (hB7.mono HB6.out.size)
          have hs7 := hB7.size
          clear q0 q1 q2 hw6
          cases hx : x.stp true with
          | some x' =>
            rw [hx] at hans
            obtain ⟨z7, rfl, hz7⟩ := hans
            obtain ⟨o7, c7, rfl⟩ := hz7.form
            have HE := hideT' (stp_arg hf hx)
            obtain ⟨w8, hw8⟩ : ∃ w8, w8 = w7.alloc (.cells #[.int .i64 x'.kd, .int .i64 x'.nm, .slice o7 x'.kids.length c7] 54) := ⟨_, rfl⟩
            have hB8 : Below W.heap.size W w8 := by rw [hw8]; exact hB7'.alloc (by omega) _
            have hF8 : RowAt w8 (w.heap.size + 1 + 1) 54 #[.int .i64 f.kd, .int .i64 f.nm, .slice fo f.kids.length fc] := HROW.out.2.2.1.below hB8 (by omega)
            have hZ8 : LcIn w8 (fun y => (P y ∧ y < w.heap.size) ∨ w.heap.size + 2 ≤ y) x' (.slice o7 x'.kids.length c7) := by rw [hw8]; exact LcIn.below ((Below.refl _ _).alloc (Nat.le_refl _) _) (LcIn.mono (fun y hy _ => by rcases hy with hy | hy; exact hy; exact .inr (by omega)) hz7)
            have hF8' : LcIn w8 (fun y => (P y ∧ y < w.heap.size) ∨ w.heap.size + 2 ≤ y) f (.slice fo f.kids.length fc) := LcIn.below hB8 HZZ.out.1
            have q0 : (w7.alloc (.cells #[.int .i64 x'.kd, .int .i64 x'.nm, .slice o7 x'.kids.length c7] 54)).cell? ⟨w.heap.size + 1 + 1, 0, none⟩ = some (.int .i64 f.kd) := by rw [← hw8, cell_of_row _ _ _ _ _ _ hF8]; rfl
            have q1 : (w7.alloc (.cells #[.int .i64 x'.kd, .int .i64 x'.nm, .slice o7 x'.kids.length c7] 54)).cell? ⟨w.heap.size + 1 + 1, 1, none⟩ = some (.int .i64 f.nm) := by rw [← hw8, cell_of_row _ _ _ _ _ _ hF8]; rfl
            have q2 : (w7.alloc (.cells #[.int .i64 x'.kd, .int .i64 x'.nm, .slice o7 x'.kids.length c7] 54)).cell? ⟨w.heap.size + 1 + 1, 2, none⟩ = some (.slice fo f.kids.length fc) := by rw [← hw8, cell_of_row _ _ _ _ _ _ hF8]; rfl
            unfold lcC
            have HC8 := hideT' (lcApp_any f x' _ _ (fun y => (P y ∧ y < w.heap.size) ∨ w.heap.size + 2 ≤ y) w8 hF8' hZ8)
            unfold lcC at HC8
            have HRZ8 : Hid (RowAt w8 (w.heap.size + 1) 54 #[.int .i64 0, .int .i64 0, .slice none 0 0]) := HROW.out.2.1.below hB8 (by omega)
            have HB8 : Hid (Below w.heap.size w w8 ∧ w.heap.size + 2 ≤ w8.heap.size) := ⟨HBW.out.trans (hB8.mono HBW.out.size), by have := hB8.size; omega⟩
            go_wp2_with fail
            rw [← hw8]
            refine HC8.out.mono ?_
            rintro e v8 ⟨⟨z8, rfl, hz8⟩, hw8⟩
            obtain ⟨o8, c8, hzz⟩ : ∃ o c, z8 = .slice o 2 c := hz8.form
            subst hzz
            have HV8 : Hid (LcIn v8 (fun y => (P y ∧ y < w.heap.size) ∨ w.heap.size + 2 ≤ y) (.app f x') (.slice o8 2 c8)) := LcIn.mono (fun y hy _ => by have := HB8.out.2; rcases hy with hy | hy; exact hy; exact .inr (by omega)) hz8
            have HRV8 : Hid (RowAt v8 (w.heap.size + 1) 54 #[.int .i64 0, .int .i64 0, .slice none 0 0]) := HRZ8.out.below hw8 HRZ8.out.lt
            have HBV8 : Hid (Below w.heap.size w v8) := HB8.out.1.trans (hw8.mono HB8.out.1.size)
            clear hz8 hw8
            go_wp2_with (refine store_3 rfl 54 _ _ rfl rfl zero_lcT.2 (w.heap.size + 1) (lcC 3 0 (.slice o8 2 c8)) rfl (lcC_one _ _ _ rfl) rfl rfl #[.int .i64 0, .int .i64 0, .slice none 0 0] rfl HRV8.out ?_; intro w9 hR9 hg9 hs9)
            refine bodyPost_ret (v := .tuple #[.agg (lcC 3 0 (.slice o8 2 c8)), .bool true]) (res_lc_tmp Try.results124 _ _ (w.heap.size + 1) 3 0 (.slice o8 2 c8) (.bool true) rfl rfl hR9) rfl ⟨?_, HBV8.out.grown hg9 HBV8.out.size (fun k e => by cases e; omega)⟩
            rw [HE.out]
            refine ⟨.slice o8 2 c8, rfl, ?_⟩
            exact LcIn.keep (w := v8) (by omega) (fun y hy hl => hg9.block y hl (by intro e; injection e with e; rcases hy with hy | hy <;> omega)) (fun y hy _ => by rcases hy with hy | hy; exact .inl hy.1; exact .inr (by omega)) HV8.out
          | none =>
            rw [hx] at hans
            obtain ⟨k7, n7, o7, m7, c7, rfl⟩ := hans
            have HE := hideT' (stp_here hf hx)
            obtain ⟨w8, hw8⟩ : ∃ w8, w8 = w7.alloc (.cells #[.int .i64 k7, .int .i64 n7, .slice o7 m7 c7] 54) := ⟨_, rfl⟩
            have hB8 : Below W.heap.size W w8 := by rw [hw8]; exact hB7'.alloc (by omega) _
            have hT8 : RowAt w8 w.heap.size 54 #[.int .i64 3, .int .i64 0, .slice (some ⟨g, 0, none⟩) 2 cz] := HROW.out.1.below hB8 (by omega)
            have q0 : (w7.alloc (.cells #[.int .i64 k7, .int .i64 n7, .slice o7 m7 c7] 54)).cell? ⟨w.heap.size, 0, none⟩ = some (.int .i64 3) := by rw [← hw8, cell_of_row _ _ _ _ _ _ hT8]; rfl
            have q1 : (w7.alloc (.cells #[.int .i64 k7, .int .i64 n7, .slice o7 m7 c7] 54)).cell? ⟨w.heap.size, 1, none⟩ = some (.int .i64 0) := by rw [← hw8, cell_of_row _ _ _ _ _ _ hT8]; rfl
            have q2 : (w7.alloc (.cells #[.int .i64 k7, .int .i64 n7, .slice o7 m7 c7] 54)).cell? ⟨w.heap.size, 2, none⟩ = some (.slice (some ⟨g, 0, none⟩) 2 cz) := by rw [← hw8, cell_of_row _ _ _ _ _ _ hT8]; rfl
            unfold lcC
            have HC8 := hideT' (HCB.out hlm w8 hB8)
            unfold lcC at HC8
            have HRZ8 : Hid (RowAt w8 (w.heap.size + 1) 54 #[.int .i64 0, .int .i64 0, .slice none 0 0]) := HROW.out.2.1.below hB8 (by omega)
            have HB8 : Hid (Below w.heap.size w w8 ∧ w.heap.size + 2 ≤ w8.heap.size) := ⟨HBW.out.trans (hB8.mono HBW.out.size), by have := hB8.size; omega⟩
            go_wp2_with fail
            rw [← hw8]
            refine HC8.out.mono ?_
            rintro e v8 ⟨⟨z8, rfl, hz8⟩, hw8⟩
            obtain ⟨o8, c8, hzz⟩ : ∃ o c, z8 = .slice o (Lm.app f x).beta.kids.length c := hz8.form
            subst hzz
            have HV8 : Hid (LcIn v8 (fun y => (P y ∧ y < w.heap.size) ∨ w.heap.size + 2 ≤ y) (Lm.app f x).beta (.slice o8 (Lm.app f x).beta.kids.length c8)) := LcIn.mono (fun y hy _ => by have := HB8.out.2; rcases hy with hy | hy; exact hy; exact .inr (by omega)) hz8
            have HRV8 : Hid (RowAt v8 (w.heap.size + 1) 54 #[.int .i64 0, .int .i64 0, .slice none 0 0]) := HRZ8.out.below hw8 HRZ8.out.lt
            have HBV8 : Hid (Below w.heap.size w v8) := HB8.out.1.trans (hw8.mono HB8.out.1.size)
            obtain ⟨kk, hkk⟩ : ∃ k, k = (Lm.app f x).beta.kd := ⟨_, rfl⟩
            obtain ⟨nn, hnn⟩ : ∃ k, k = (Lm.app f x).beta.nm := ⟨_, rfl⟩
            obtain ⟨mm, hmm⟩ : ∃ k, k = (Lm.app f x).beta.kids.length := ⟨_, rfl⟩
            have HKN : Hid ((Lm.app f x).beta.kd = kk ∧ (Lm.app f x).beta.nm = nn) := ⟨hkk.symm, hnn.symm⟩
            rw [← hkk, ← hnn, ← hmm]
            rw [← hmm] at HV8
            clear hz8 hw8 hkk hnn hmm
            go_wp2_with (refine store_3 rfl 54 _ _ rfl rfl zero_lcT.2 (w.heap.size + 1) (lcC kk nn (.slice o8 mm c8)) rfl (lcC_one _ _ _ rfl) rfl rfl #[.int .i64 0, .int .i64 0, .slice none 0 0] rfl HRV8.out ?_; intro w9 hR9 hg9 hs9)
            refine bodyPost_ret (v := .tuple #[.agg (lcC kk nn (.slice o8 mm c8)), .bool true]) (res_lc_tmp Try.results124 _ _ (w.heap.size + 1) kk nn (.slice o8 mm c8) (.bool true) rfl rfl hR9) rfl ⟨?_, HBV8.out.grown hg9 HBV8.out.size (fun k e => by cases e; omega)⟩
            rw [HE.out]
            refine ⟨.slice o8 mm c8, by rw [HKN.out.1, HKN.out.2], ?_⟩
            exact LcIn.keep (w := v8) (by omega) (fun y hy hl => hg9.block y hl (by intro e; injection e with e; rcases hy with hy | hy <;> omega)) (fun y hy _ => by rcases hy with hy | hy; exact .inl hy.1; exact .inr (by omega)) HV8.out
  · have HN : Hid (t.stp v = none) := by
      unfold Hid
      cases t with
      | var n => rfl
      | lam u => rfl
      | app a b => exact absurd rfl hk
    obtain ⟨oz, cz, rfl⟩ := hz.form
    obtain ⟨kd, hkd⟩ : ∃ kd, kd = t.kd := ⟨_, rfl⟩
    obtain ⟨nm, hnm⟩ : ∃ nm, nm = t.nm := ⟨_, rfl⟩
    obtain ⟨ln, hln⟩ : ∃ ln, ln = t.kids.length := ⟨_, rfl⟩
    rw [← hkd] at hk
    rw [← hkd, ← hnm, ← hln]
    rw [HN.out]
    have hkb : (kd == 3) = false := by simpa using hk
    have HRZ : Hid (RowAt ((w.alloc (.cells #[.int .i64 kd, .int .i64 nm, .slice oz ln cz] 54)).alloc (.cells #[.int .i64 0, .int .i64 0, .slice none 0 0] 54)) (w.heap.size + 1) 54 #[.int .i64 0, .int .i64 0, .slice none 0 0]) := by
      have := RowAt.new (w.alloc (.cells #[.int .i64 kd, .int .i64 nm, .slice oz ln cz] 54)) 54 #[.int .i64 0, .int .i64 0, .slice none 0 0]
      rwa [World.size_alloc] at this
    have HB : Hid (Below w.heap.size w ((w.alloc (.cells #[.int .i64 kd, .int .i64 nm, .slice oz ln cz] 54)).alloc (.cells #[.int .i64 0, .int .i64 0, .slice none 0 0] 54))) := ((Below.refl _ _).alloc (Nat.le_refl _) _).alloc (by simp) _
    clear hz hcl hsz ht hkd hnm hln
    unfold lcC
    go_enter Try.func124, Try.ntmps124
    go_wp2_with (refine store_3 rfl 54 _ _ rfl rfl zero_lcT.2 (w.heap.size + 1) (lcC kd nm (.slice oz ln cz)) rfl (lcC_one _ _ _ rfl) rfl rfl #[.int .i64 0, .int .i64 0, .slice none 0 0] rfl HRZ.out ?_; intro w9 hR9 hg9 hs9)
    refine bodyPost_ret (v := .tuple #[.agg (lcC kd nm (.slice oz ln cz)), .bool false]) (res_lc_tmp Try.results124 _ _ (w.heap.size + 1) kd nm (.slice oz ln cz) (.bool false) rfl rfl hR9) rfl ⟨⟨kd, nm, oz, ln, cz, rfl⟩, HB.out.grown hg9 HB.out.size (fun k e => by cases e; omega)⟩
theorem lfStep_all (v : Bool) : ∀ N, StC v N := by
  intro N
  induction N using Nat.strongRecOn with
  | _ N IH => exact lfStep_step v N IH
end Go.Proofs.Ytbnagagdboeedaa

/-
  What redexesIn of the program answers.
-/
namespace Go.Proofs.Ytbnagagdboeedaa
open Go.RowKit Go.Shelf BL
set_option linter.unusedVariables false
attribute [local go_sem] Oper.semAt_some

/-- How a round of redexesIn begins. -/
def redAct (w : World) (b sb : Nat) (x : Spot × Nat) : Act := { tmps := #[.pointer (some ⟨b, 0, none⟩), undef, .slice none 0 0, .pointer (some ⟨w.heap.size, 0, none⟩), .pointer (some ⟨sb, 0, none⟩), .pointer (some ⟨x.2, 0, none⟩), .pointer (some ⟨b, 0, none⟩), .func (.func 125) #[] #[.pointer (some ⟨w.heap.size + 1, 0, none⟩)], .agg #[.int .i64 (x.1.at_ : Int), .int .i64 x.1.up, .int .i64 (x.1.lam : Int)], .pointer (some ⟨x.2, 0, none⟩), undef, undef, undef, undef, undef, undef, undef, undef], defers := [] }
set_option maxRecDepth 100000 in
set_option maxHeartbeats 8000000 in
theorem redexesIn_any (t : Lm) (b : Nat) (P : Nat → Prop) (w : World) (hT : TrIn w P t b) (hs : t.sz ≤ 1000000) :
    Calls Try.prog 65 #[.pointer (some ⟨b, 0, none⟩)] w fun e w' => (∃ u, e = .returned u ∧ OwnR w' w.heap.size u 3 intL 1 (natsI t.reds)) ∧ Below w.heap.size w w' := by
  refine (callsIn_wide (n := 4)).1 ?_
  have HT := hideT' hT
  clear hT
  refine callsIn_of_wp_marks Try.func65 rfl trivial ?_ rfl
  simp only [Try.ntmps65, List.size_toArray, List.length_cons, List.length_nil, Nat.reduceAdd, Nat.reduceSub, Array.replicate_succ, Array.replicate_zero, List.push_toArray, List.append_toArray, List.nil_append, List.cons_append]
  gi_wp2
  refine ⟨trivial, ?_⟩
  gi_at_call 93
  refine (callsIn_wide.2 (walk_any b _)).mono ?_
  rintro e w3 ⟨rfl, hw3⟩
  have hs3 : w3.heap.size = w.heap.size + 2 := by rw [hw3]; simp
  have hB3 : Below w.heap.size w w3 := by rw [hw3]; exact ((Below.refl _ _).alloc (Nat.le_refl _) _).alloc (by simp) _
  have hI0 : RedI w [] (fun z => z = w.heap.size) w3 := by
    refine ⟨.slice none 0 0, fun z => ?_, ?_, World.ownsRow_nil _ _ _ _, hB3⟩
    · simp [Value.ownBlock]
    · rw [hw3]; exact RowAt.old (RowAt.new _ _ _) _
  have hcx : w3.cell? ⟨w.heap.size + 1, 0, none⟩ = some (.pointer (some ⟨b, 0, none⟩)) := by
    have hr : RowAt w3 (w.heap.size + 1) 60 #[.pointer (some ⟨b, 0, none⟩)] := by
      rw [hw3]
      have := RowAt.new (w.alloc (.cells #[.slice none 0 0] 24)) 60 #[.pointer (some ⟨b, 0, none⟩)]
      rwa [World.size_alloc] at this
    rw [cell_of_row _ _ _ _ _ _ hr]; rfl
  have HI0 := hideT' hI0
  have HB3 := hideT' hB3
  have HCX := hideT' hcx
  clear hw3 hI0 hB3 hcx
  simp only [World.size_alloc]
  gi_wp2
  refine range_own (gf := 125) (lb := #[.pointer (some ⟨w.heap.size + 1, 0, none⟩)]) (by rfl) (enters_of Try.func125 (by kernel_rfl) rfl) encS (fun x => rfl) _ _ _ (walk_seq (w.heap.size + 1) t b hs)
    (fun pre x V V' W hVV h => ⟨h.1, TrIn.mono (fun z hz _ hv => hz (hVV z hv)) h.2⟩)
    (RedI w) (fun s V A h => h.lt) (fun s V A B row h hg hr => h.step hg (fun r e => ⟨(hr r e).1, by have := (hr r e).2; omega⟩)) (fun z => z = w.heap.size) HI0.out ?need
    (fun pre x V c W => ∃ sb, c = redAct w b sb x ∧ pre.length < t.sz ∧ (x.1.at_ < t.sz) ∧ RedI w pre V W ∧ RowAt W sb 114 #[.int .i64 (x.1.at_ : Int), .int .i64 x.1.up, .int .i64 (x.1.lam : Int)] ∧ ¬ V sb ∧ TrIn W (fun z => ¬ V z) x.1.t x.2) ?ax ?assign ?body ?done
  case need =>
    intro B V hg hV
    refine ⟨TrIn.keep (w := w) (P := P) (by have := hg.size; omega) (fun x _ hx => ?_) (fun x _ hx hv => ?_) HT.out, ?_⟩
    · rw [hg.block x (by omega) (by simp)]; exact HB3.out.block x hx
    · rcases hV x hv with h | h <;> omega
    · rw [World.cell?_of_block (w := w3) (a := ⟨w.heap.size + 1, 0, none⟩) (hg.block _ (by simp; omega) (by simp))]; exact HCX.out
  case ax =>
    rintro s x V c A B row ⟨sb, h1, hl, ha, h2, h3, h4, h5⟩ hg hr
    exact ⟨sb, h1, hl, ha, h2.step hg (fun r e => ⟨(hr r e).1.1, by have := (hr r e).1.2; omega⟩), TrIn.turn.row_same h3 hg (fun r e => (hr r e).2), h4, TrIn.turn hg (fun r e => (hr r e).2) h5⟩
  case assign =>
    intro l pre x V W K hNx hI hK
    have HI := hideT' hI
    have HK := hideT' hK
    have HNX := hideT' hNx
    unfold encS
    clear hI hK hNx
    gi_wp2
    have hal : Below W.heap.size W (W.alloc (.cells #[.int .i64 (x.1.at_ : Int), .int .i64 x.1.up, .int .i64 (x.1.lam : Int)] 114)) := (Below.refl _ _).alloc (Nat.le_refl _) _
    obtain ⟨⟨post, hpo⟩, hTx⟩ := HNX.out
    have hlen := congrArg List.length hpo
    rw [Lm.walk_len, List.length_append, List.length_map, List.length_cons] at hlen
    refine HK.out _ _ V ⟨W.heap.size, rfl, by omega, ?_, HI.out.step (row := none) ⟨hal.os, hal.tape, hal.output, hal.size, fun k hk _ => hal.block k hk⟩ (fun r e => by cases e), RowAt.new _ _ _, fun h => by have := HI.out.lt _ h; omega, TrIn.below hal hTx⟩ (MoreB.refl _ _) (KeepsB.below hal)
    have := (Lm.walk_sub t 0 (-1) 0 x.1 (by rw [hpo]; simp)).2.2.2.1
    omega
  case body =>
    rintro l pre x V c W ⟨sb, rfl, hpl, hat, hI, hR, hVs, hTx⟩
    unfold redAct
    obtain ⟨v, hV, hRv, hO, hB⟩ := hI
    obtain ⟨ov, cap, hvv⟩ := own_formT hO
    subst hvv
    have hls := redsOf_len pre
    have hra := redsOf_app pre x
    have hca : W.cell? ⟨sb, 0, none⟩ = some (.int .i64 (x.1.at_ : Int)) := by rw [cell_of_row _ _ _ _ _ _ hR]; rfl
    have hcv : W.cell? ⟨w.heap.size, 0, none⟩ = some (.slice ov (redsOf pre).length cap) := by rw [cell_of_row _ _ _ _ _ _ hRv]; rfl
    have HC := hideT' (isRedex_any x.1.t x.2 _ W hTx)
    obtain ⟨q, hq⟩ : ∃ q, q = x.1.t.isRed := ⟨_, rfl⟩
    rw [← hq] at HC hra
    have HV := hideT' hV
    have HRV := hideT' hRv
    have HO := hideT' hO
    have HB := hideT' hB
    have hsb := hR.lt
    have hwz := hRv.lt
    clear hV hRv hO hB hR hTx hq
    cases q with
    | false =>
      have HRA : Hid (redsOf (pre ++ [x]) = redsOf pre) := by unfold Hid; rw [hra]; simp
      clear hra
      gi_wp2
      refine ⟨trivial, ?_⟩
      gi_at_call 102
      refine (CallsIn.inRound l (callsIn_wide.2 HC.out)).mono ?_
      rintro e w4 ⟨rfl, rfl⟩
      gi_wp2
      exact ⟨V, ⟨_, HV.out, HRV.out, by rw [HRA.out]; exact HO.out, HB.out⟩, MoreB.refl _ _, KeepsB.refl _ _⟩
    | true =>
      have HRA : Hid (redsOf (pre ++ [x]) = redsOf pre ++ [(x.1.at_ : Int)]) := by unfold Hid; rw [hra]; simp
      clear hra
      obtain ⟨i0, hi, hz0, hz1, hz2⟩ := info_parts info_int
      gi_wp2
      refine ⟨trivial, ?_⟩
      gi_at_call 102
      refine (CallsIn.inRound l (callsIn_wide.2 HC.out)).mono ?_
      rintro e w4 ⟨rfl, rfl⟩
      have hwl : w.heap.size + 1 ≤ w4.heap.size := hwz
      gi_wp2_with (gi_at_builtin; refine wpListIn_append_own_at _ rfl _ _ 24 rfl (w.heap.size + 1) 3 i0 (.int .i64 0) 1 8 Try.underlying24 hi hz0 hz1 hz2 rfl (by decide) (.slice ov (redsOf pre).length cap) _ _ rfl (HO.out.alloc _) ⟨w4.heap.size, 0, none⟩ 1 1 [.int .i64 (x.1.at_ : Int)] rfl rfl (cell_one_new _ _ _) (oneT_cell _) (by unfold maxLen; omega) (by omega) (by simp; omega) ?_; intro v5 w5 hown5 hg5 _ hat5; obtain ⟨g5, cap5, rfl⟩ := ownsRow_succ hown5; have hbx5 := boxR_append (B := w.heap.size) (t := 24) HRV.out (by decide) HO.out hown5 hg5; have HBX5 := hideT' hbx5; have f5 : w5.cell? ⟨w.heap.size, 0, none⟩ = some (.slice ov (redsOf pre).length cap) := hbx5.1.cell; have fz5 : w5.frozen? ⟨w.heap.size, 0, none⟩ = false := hbx5.1.frozen; have HG5 := hideT' hg5; have HAT5 := hideT' hat5; clear hbx5 hg5 hat5)
      obtain ⟨_, q1, q2, q3, q4, q5, q6, q7, q8⟩ := HBX5.out
      have hob : ∀ z, z < w4.heap.size → ¬ V z → (w5.setCell ⟨w.heap.size, 0, none⟩ (.slice (some ⟨g5, 0, none⟩) ((redsOf pre).length + 1) cap5)).heap[z]? = w4.heap[z]? := fun z hz hv => by
        have h1 : z ≠ w.heap.size := fun e => hv ((HV.out z).2 (.inl e))
        rw [heap_setCell_other w5 ⟨w.heap.size, 0, none⟩ z _ (fun e => h1 e), HG5.out.block z (by simp; omega) (fun e => hv ((HV.out z).2 (.inr e.symm))), Below.heap_alloc _ _ _ hz]
      refine ⟨fun z => z = w.heap.size ∨ (Value.slice (some ⟨g5, 0, none⟩) ((redsOf pre).length + 1) cap5).ownBlock = some z, ⟨_, fun z => Iff.rfl, q1, ?_, ?_⟩, ?_, ⟨q4, fun z hz hv => hob z hz hv⟩⟩
      · unfold OwnR
        rw [HRA.out, List.length_append, List.length_singleton, List.flatMap_append]; exact q2
      · refine HB.out.trans ⟨q6, q7, q8, q4, fun j hj => ?_⟩
        exact hob j (by omega) (fun h => by
          rcases (HV.out j).1 h with e | e
          · omega
          · have := (HO.out.lt j e).1; omega)
      · intro z hz
        rcases hz with rfl | hz
        · exact .inl ((HV.out _).2 (.inl rfl))
        · rcases HAT5.out with h | h
          · exact .inl ((HV.out z).2 (.inr (by rw [← h]; exact hz)))
          · rw [h] at hz
            injection hz with hz
            rw [World.size_alloc] at hz
            exact .inr (by omega)
  case done =>
    rintro D ys V W hD hS ⟨v, hV, hRv, hO, hB⟩ hVD hK
    obtain ⟨ov, cap, hvv⟩ := own_formT hO
    subst hvv
    have hcv : W.cell? ⟨w.heap.size, 0, none⟩ = some (.slice ov (redsOf ys).length cap) := by rw [cell_of_row _ _ _ _ _ _ hRv]; rfl
    have HOW : Hid (W.ownsRow w.heap.size 3 1 (.slice ov (redsOf ys).length cap) (natsI t.reds).length ((natsI t.reds).flatMap intL)) := by
      unfold Hid
      rw [← redsOf_all hS]
      exact ⟨hO.1, hO.2.imp id fun ⟨g, cap, cur, h1, h2, h3⟩ => ⟨g, cap, cur, h1, by omega, h3⟩⟩
    have HW := hideT' hB
    have HKD := hideT' hK
    clear hO hB hK hRv
    gi_wp2
    refine leave_marks (v := .slice ov (redsOf ys).length cap) HKD.out (by simp [results, Try.results65, go_sem]) ⟨⟨_, rfl, ?_⟩, below_put HW.out (by omega) HW.out.size⟩
    exact ⟨HOW.out.1, HOW.out.2.imp id fun ⟨g, cap, cur, h1, h2, h3, h4⟩ => ⟨g, cap, cur, h1, h2, row_put h3 HKD.out rfl, h4⟩⟩
end Go.Proofs.Ytbnagagdboeedaa

/-
  What lcRedexes and RedexesIn of the model answer; RedexesIn of the program.
-/
namespace Go.Proofs.Ytbnagagdboeedaa
open Go.RowKit BL
set_option linter.unusedVariables false

theorem Seg.spot {l : List Nd} : ∀ {t : Lm} {a : Nat} {up : Int}, Seg l t a up → ∀ m, ∀ x ∈ t.walk a up m, ndAt l x.at_ = x.nd ∧ x.at_ + x.t.sz ≤ a + t.sz
  | .var n, a, up, h, m, x, hx => by
    simp only [Lm.walk, List.mem_singleton] at hx
    subst hx
    exact ⟨h.nd, Nat.le_refl _⟩
  | .lam t, a, up, h, m, x, hx => by
    rw [Lm.walk] at hx
    rcases List.mem_cons.1 hx with rfl | hx
    · exact ⟨h.nd, Nat.le_refl _⟩
    · have := Seg.spot h.2 _ x hx
      exact ⟨this.1, by have := this.2; simp only [Lm.sz]; omega⟩
  | .app s t, a, up, h, m, x, hx => by
    rw [Lm.walk] at hx
    rcases List.mem_cons.1 hx with rfl | hx
    · exact ⟨h.nd, Nat.le_refl _⟩
    · rcases List.mem_append.1 hx with hx | hx
      · have := Seg.spot h.2.1 _ x hx
        exact ⟨this.1, by have := this.2; simp only [Lm.sz]; omega⟩
      · have := Seg.spot h.2.2 _ x hx
        exact ⟨this.1, by have := this.2; simp only [Lm.sz]; omega⟩
/-- An application has a node behind it. -/
theorem flat_next (t : Lm) (k : Nat) (hk : k < t.sz) (h3 : (ndAt (t.flat 0 (-1)) k).k = 3) : k + 1 < t.sz := by
  have h1 : k ∈ (t.walk 0 (-1) 0).map Spot.at_ := by rw [Lm.walk_ats]; simp [List.mem_range']; omega
  obtain ⟨x, hx, rfl⟩ := List.mem_map.1 h1
  have h2 := Seg.spot (Seg.whole t) 0 x hx
  rw [h2.1] at h3
  simp only [Spot.nd] at h3
  cases hx' : x.t with
  | var n => rw [hx'] at h3; simp [Lm.kd] at h3
  | lam s => rw [hx'] at h3; simp [Lm.kd] at h3
  | app p q =>
    have h4 := h2.2
    rw [hx'] at h4
    simp only [Lm.sz] at h4
    have := p.sz_pos
    omega
def redsTo (l : List Nd) (k : Nat) : List Nat := (List.range k).filter (redN l)
theorem redsTo_succ (l : List Nd) (k : Nat) : redsTo l (k + 1) = redsTo l k ++ (if redN l k then [k] else []) := by
  unfold redsTo
  rw [List.range_succ, List.filter_append]
  congr 1
  cases h : redN l k <;> simp [List.filter, h]
theorem redsTo_le (l : List Nd) (k : Nat) : (redsTo l k).length ≤ k := by
  unfold redsTo
  exact Nat.le_trans (List.length_filter_le _ _) (by simp)

set_option maxHeartbeats 4000000 in
set_option maxRecDepth 100000 in
theorem lcRedexes_any (t : Lm) (v : Value) (w : World) (hv : NdIn w v (t.flat 0 (-1))) (hs : t.sz ≤ 1000000) :
    Calls Try.prog 103 #[v] w fun e w' => (∃ u, e = .returned u ∧ OwnR w' w.heap.size u 3 intL 1 (natsI t.reds)) ∧ Below w.heap.size w w' := by
  have HV := hideT' hv
  obtain ⟨o, cap, rfl⟩ := hv.len
  clear hv
  obtain ⟨i0, hi, hz0, hz1, hz2⟩ := info_parts info_int
  have hz := zero_term.1
  obtain ⟨l, hl⟩ : ∃ l, l = t.flat 0 (-1) := ⟨_, rfl⟩
  rw [← hl] at HV ⊢
  obtain ⟨n, hn⟩ : ∃ n, n = l.length := ⟨_, rfl⟩
  have HNS : Hid (n = t.sz) := by unfold Hid; rw [hn, hl, Lm.flat_sz]
  have HNX : Hid (∀ k, k < n → (ndAt l k).k = 3 → k + 1 < n) := fun k hk h3 => by rw [HNS.out]; exact flat_next t k (by rw [← HNS.out]; exact hk) (by rw [← hl]; exact h3)
  have HRE : Hid (redsTo l n = t.reds) := by
    unfold Hid
    rw [← redsN_flat, ← hl, hn]; rfl
  have HNN := hideT' hn
  have hn1 : n ≤ 1000000 := by rw [HNS.out]; exact hs
  rw [← hn]
  clear hn hl hs
  go_enter Try.func103, Try.ntmps103
  go_wp2_with fail
  go_loopg [3, 8] n (fun g x i wr => ∃ k : Nat, g = n - k ∧ k ≤ n ∧ i = .int .i64 (k : Int) ∧ OwnR wr w.heap.size x 3 intL 1 (natsI (redsTo l k)) ∧ Below w.heap.size w wr)
  case atStart => exact ⟨0, rfl, by omega, by go_num, World.ownsRow_nil _ _ _ _, Below.refl _ _⟩
  case round =>
    obtain ⟨k, hg, hk, rfl, hO, hW⟩ := hrel
    obtain ⟨o2, cap2, hv2⟩ := own_formT hO
    have HO := hideT' hO
    subst hv2
    by_cases hlt : (k : Int) < (n : Int)
    · obtain ⟨nd, hnd⟩ : ∃ nd, nd = ndAt l k := ⟨_, rfl⟩
      obtain ⟨b, rfl, hb, c0, c1, c2⟩ := (HV.out.below hW).cells (by have := HNN.out; omega) hnd
      have hb' : b < wr.heap.size := hb
      have hsucc := redsTo_succ l k
      have hpl := redsTo_le l k
      rw [← natsI_len] at hpl
      have HW := hideT' hW
      have hsz := hW.size
      have HKD : Hid ((ndAt l k).k = nd.k) := by unfold Hid; rw [hnd]
      clear hb hnd hO hW
      obtain ⟨kd, nm, u⟩ := nd
      simp only at c0 c1 c2 HKD
      have hAl : Below w.heap.size w (wr.alloc (.cells #[.int .i64 kd, .int .i64 nm, .int .i64 u] 57)) := HW.out.alloc hsz _
      have HAL := hideT' hAl
      clear hAl
      by_cases h3 : kd = 3
      · subst h3
        have hk1 := HNX.out k (by omega) HKD.out
        obtain ⟨nd2, hnd2⟩ : ∃ nd2, nd2 = ndAt l (k + 1) := ⟨_, rfl⟩
        obtain ⟨b2, e2, _, d0, _, _⟩ := (HV.out.below HW.out).cells (by have := HNN.out; omega) hnd2
        cases e2
        have HRN : Hid (redN l k = decide (nd2.k = 2)) := by unfold Hid redN; rw [HKD.out, ← hnd2]; simp
        clear hnd2
        obtain ⟨kd2, nm2, u2⟩ := nd2
        simp only at d0 HRN
        have hcast : ((k + 1 : Nat) : Int) = (k : Int) + 1 := by omega
        have HCA := hideT' hcast
        clear hcast
        by_cases h2 : kd2 = 2
        · have HS : Hid (natsI (redsTo l (k + 1)) = natsI (redsTo l k) ++ [(k : Int)]) := by unfold Hid; rw [hsucc, HRN.out, decide_eq_true h2]; simp [natsI]
          clear hsucc
          go_wp2_with (at_builtin; refine wpList_append_own _ rfl _ _ 24 rfl w.heap.size 3 i0 (.int .i64 0) 1 8 Try.underlying24 hi hz0 hz1 hz2 rfl (by decide) _ _ _ rfl ((HO.out.alloc _).alloc _) ⟨wr.heap.size + 1, 0, none⟩ 1 1 [.int .i64 (k : Int)] rfl rfl (by have := cell_one_new (wr.alloc (.cells #[.int .i64 3, .int .i64 nm, .int .i64 u] 57)) (.int .i64 (k : Int)) 3; rw [World.size_alloc] at this; exact this) (oneT_cell _) (by unfold maxLen; omega) (by omega) (by simp; omega) ?_; intro v' w4 hown' hgrow _)
          have hgb : ∀ g, (Value.slice o2 (natsI (redsTo l k)).length cap2).ownBlock = some g → w.heap.size ≤ g := fun g e => (HO.out.lt g e).1
          go_roundg (n - (k + 1))
          case measure => omega
          case rel =>
            refine ⟨k + 1, rfl, by omega, by go_num, ?_, ?_⟩
            · rw [HS.out]
              unfold OwnR
              rw [List.length_append, List.flatMap_append]
              exact hown'
            · exact (HAL.out.alloc (by simp; omega) _).grown hgrow (by simp; omega) (fun k hk => hgb _ hk)
        · have HS : Hid (natsI (redsTo l (k + 1)) = natsI (redsTo l k)) := by unfold Hid; rw [hsucc, HRN.out, decide_eq_false h2]; simp
          clear hsucc
          go_wp2
          go_roundg (n - (k + 1))
          case measure => omega
          case rel => exact ⟨k + 1, rfl, by omega, by go_num, by rw [HS.out]; exact HO.out.alloc _, HAL.out⟩
      · have HS : Hid (natsI (redsTo l (k + 1)) = natsI (redsTo l k)) := by unfold Hid; rw [hsucc]; unfold redN; rw [HKD.out, decide_eq_false h3]; simp
        clear hsucc
        go_wp2
        go_roundg (n - (k + 1))
        case measure => omega
        case rel => exact ⟨k + 1, rfl, by omega, by go_num, by rw [HS.out]; exact HO.out.alloc _, HAL.out⟩
    · have hkn : k = n := by omega
      subst hkn
      clear hO
      go_wp2
      go_ret
      exact ⟨⟨_, rfl, by rw [← HRE.out]; exact HO.out⟩, hW⟩

/-- The answer of both RedexesIn. -/
def RedB (l : List Nd) : Bool := goodS l
def RedL (l : List Nd) : List Int := match readP' l with | none => [] | some t => natsI t.reds
def RedOut (w : World) (l : List Nd) (e : Ending) (w' : World) : Prop :=
  ∃ u, e = .returned (.tuple #[u, .bool (RedB l)]) ∧ OwnR w' w.heap.size u 3 intL 1 (RedL l)
theorem own_keep' {w w' : World} {B n s : Nat} {T : TypeId} {v : Value} {xs : List Value} {row : Option Nat} (h : w.ownsRow B T s v n xs) (hg : w.grownBy w' row) (hr : ∀ g, v.ownBlock = some g → some g ≠ row) : w'.ownsRow B T s v n xs :=
  own_keep h (fun g e => hg.block g (h.lt g e).2 (hr g e))
theorem readP'_good {l : List Nd} {t : Lm} (h : readP' l = some t) : l = t.flat 0 (-1) ∧ t.sz ≤ 150 := by
  have := (readP'_iff l t).1 h
  exact ⟨this.1, (Lm.good_sz this.2).1⟩
theorem RedL_len (l : List Nd) : (RedL l).length ≤ 1048576 := by
  unfold RedL
  split
  · simp
  · next t h =>
    have h1 := (readP'_good h).2
    rw [natsI_len]
    unfold Lm.reds
    rw [List.length_map]
    have h2 := List.length_filter_le (fun x : Spot => x.t.isRed) (t.walk 0 (-1) 0)
    rw [Lm.walk_len] at h2
    omega
end Go.Proofs.Ytbnagagdboeedaa

/-
  What both ReduceAt answer.
-/
namespace Go.Proofs.Ytbnagagdboeedaa
open Go.RowKit BL
set_option linter.unusedVariables false

theorem Lm.walk_subAt : ∀ (t : Lm) (a : Nat) (u : Int) (m : Nat) (x : Spot), x ∈ t.walk a u m → a ≤ x.at_ ∧ x.at_ < a + t.sz ∧ t.subAt (x.at_ - a) = some x.t
  | .var n, a, u, m, x, h => by
    simp only [Lm.walk, List.mem_singleton] at h
    subst h
    exact ⟨Nat.le_refl _, by simp [Lm.sz], by simp [Lm.subAt]⟩
  | .lam t, a, u, m, x, h => by
    rw [Lm.walk] at h
    rcases List.mem_cons.1 h with rfl | h
    · exact ⟨Nat.le_refl _, by simp [Lm.sz], by simp [Lm.subAt]⟩
    · obtain ⟨h1, h2, h3⟩ := Lm.walk_subAt t _ _ _ x h
      refine ⟨by omega, by simp only [Lm.sz]; omega, ?_⟩
      rw [show x.at_ - a = (x.at_ - (a + 1)) + 1 by omega, Lm.subAt]; exact h3
  | .app s t, a, u, m, x, h => by
    rw [Lm.walk] at h
    rcases List.mem_cons.1 h with rfl | h
    · exact ⟨Nat.le_refl _, by simp [Lm.sz], by simp [Lm.subAt]⟩
    · rcases List.mem_append.1 h with h | h
      · obtain ⟨h1, h2, h3⟩ := Lm.walk_subAt s _ _ _ x h
        refine ⟨by omega, by simp only [Lm.sz]; omega, ?_⟩
        rw [show x.at_ - a = (x.at_ - (a + 1)) + 1 by omega, Lm.subAt, if_pos (by omega)]; exact h3
      · obtain ⟨h1, h2, h3⟩ := Lm.walk_subAt t _ _ _ x h
        refine ⟨by omega, by simp only [Lm.sz]; omega, ?_⟩
        rw [show x.at_ - a = (x.at_ - (a + 1)) + 1 by omega, Lm.subAt, if_neg (by omega), show x.at_ - (a + 1) - s.sz = x.at_ - (a + 1 + s.sz) by omega]; exact h3
theorem reds_sub {t : Lm} {k : Nat} (h : k ∈ t.reds) : k < t.sz ∧ ∃ s, t.subAt k = some s ∧ s.isRed = true := by
  unfold Lm.reds at h
  obtain ⟨x, hx, rfl⟩ := List.mem_map.1 h
  obtain ⟨hx1, hx2⟩ := List.mem_filter.1 hx
  obtain ⟨h1, h2, h3⟩ := Lm.walk_subAt t 0 (-1) 0 x hx1
  exact ⟨by omega, x.t, by simpa using h3, hx2⟩
theorem natsI_mem {l : List Nat} {k : Int} (h : k ∈ natsI l) : ∃ n : Nat, k = (n : Int) ∧ n ∈ l := by
  unfold natsI at h
  obtain ⟨n, hn, rfl⟩ := List.mem_map.1 h
  exact ⟨n, rfl, hn⟩
theorem InR.int {w : World} {v : Value} {l : List Int} (h : InR w v intL 1 l) : ∃ o cap, v = .slice o l.length cap ∧ ∀ i x, l[i]? = some x → ∃ g, o = some ⟨g, 0, none⟩ ∧ g < w.heap.size ∧ w.cell? ⟨g, i, none⟩ = some (.int .i64 x) := by
  obtain ⟨o, cap, e, hin⟩ := h
  refine ⟨o, cap, e, fun i x hi => ?_⟩
  have hil := (List.getElem?_eq_some_iff.1 hi).1
  obtain ⟨g, ho, hg, hc⟩ := hin (by intro e; rw [e] at hil; simp at hil)
  refine ⟨g, ho, hg, ?_⟩
  have := hc i 0 (.int .i64 x) hil (by rw [List.getD, hi]; rfl)
  simpa using this
theorem beta_szle (s : Lm) : s.sz ≤ 400 → s.beta.sz ≤ 160000 + s.sz := fun h => by have := (Lm.beta_sz s h).1; omega
/-- Reducing, where the term is not too great. -/
def betaS (s : Lm) : Lm := if s.sz ≤ 400 then s.beta else s
theorem betaS_sz (s : Lm) : (betaS s).sz ≤ 160000 + s.sz := by
  unfold betaS
  split
  · next h => exact beta_szle s h
  · omega
theorem chgAt_betaS : ∀ (t : Lm) (k : Nat), t.sz ≤ 400 → Lm.chgAt betaS t k = Lm.chgAt Lm.beta t k
  | .var n, 0, h => by rw [Lm.chgAt, Lm.chgAt, betaS, if_pos h]
  | .var n, k + 1, h => by rw [Lm.chgAt, Lm.chgAt]
  | .lam t, 0, h => by rw [Lm.chgAt, Lm.chgAt, betaS, if_pos h]
  | .lam t, k + 1, h => by simp only [Lm.sz] at h; rw [Lm.chgAt, Lm.chgAt, chgAt_betaS t k (by omega)]
  | .app s t, 0, h => by rw [Lm.chgAt, Lm.chgAt, betaS, if_pos h]
  | .app s t, k + 1, h => by simp only [Lm.sz] at h; rw [Lm.chgAt, Lm.chgAt, chgAt_betaS s k (by omega), chgAt_betaS t (k - s.sz) (by omega)]
theorem reducedS_any : ChgOk 67 Lm.isRed betaS 400 := fun s b P w hT hp hs hb => by
  have := reduced_any s b P w hT hp hs hb
  rw [show betaS s = s.beta by unfold betaS; rw [if_pos hs]]
  exact this
/-- What changedAt makes of a redex. -/
theorem changedRed_any (t s : Lm) (b k : Nat) (P : Nat → Prop) (w : World) (hT : TrIn w P t b) (hsub : t.subAt k = some s) (hred : s.isRed = true) (hsz : t.sz ≤ 400) (hbd : t.bd) :
    Calls Try.prog 66 #[.pointer (some ⟨b, 0, none⟩), .int .i64 (k : Int), .func (.func 67) #[] #[]] w fun e w' => (∃ b', e = .returned (.pointer (some ⟨b', 0, none⟩)) ∧ TrIn w' (fun x => P x ∨ w.heap.size ≤ x) (Lm.chgAt Lm.beta t k) b') ∧ Below w.heap.size w w' := by
  have := changedAt_all 67 Lm.isRed betaS 400 160000 call_reduced betaS_sz (by omega) (by omega) reducedS_any t.sz t (Nat.le_refl _) s b k P w hT hsub hred hsz hbd
  rw [chgAt_betaS t k hsz] at this
  exact this
theorem chgAt_beta_sz (t : Lm) (k : Nat) (h : t.sz ≤ 400) : (Lm.chgAt Lm.beta t k).sz ≤ 160400 := by
  rw [← chgAt_betaS t k h]
  have := chgAt_szle betaS 160000 betaS_sz t k
  omega
def RdT (l : List Nd) (k : Int) : Option Lm := match readP' l with
  | some t => if k ∈ natsI t.reds then some (Lm.chgAt Lm.beta t k.toNat) else none
  | none => none
theorem RdT_l {l : List Nd} {k : Int} (h : readP' l = none) : RdT l k = none := by unfold RdT; rw [h]
theorem RdT_no {l : List Nd} {k : Int} {t : Lm} (h1 : readP' l = some t) (h : k ∉ natsI t.reds) : RdT l k = none := by unfold RdT; rw [h1]; simp [h]
theorem RdT_ok {l : List Nd} {n : Nat} {t : Lm} (h1 : readP' l = some t) (h : (n : Int) ∈ natsI t.reds) : RdT l (n : Int) = some (Lm.chgAt Lm.beta t n) := by unfold RdT; rw [h1]; simp [h]
theorem reds_len (t : Lm) : (natsI t.reds).length ≤ t.sz := by
  rw [natsI_len]
  unfold Lm.reds
  rw [List.length_map]
  have h2 := List.length_filter_le (fun x : Spot => x.t.isRed) (t.walk 0 (-1) 0)
  rw [Lm.walk_len] at h2
  exact h2
end Go.Proofs.Ytbnagagdboeedaa

/-
  What developed of the program makes.
-/
namespace Go.Proofs.Ytbnagagdboeedaa
open Go.RowKit BL
set_option linter.unusedVariables false

/-- A term out of its developed parts. -/
def devEnd (t o : Lm) : Option Lm := (if t.isRed then o.beta else o).chk
theorem dev_none {t p : Lm} (hp : p ∈ t.kids) (h : p.dev = none) : t.dev = none := by
  cases t with
  | var n => simp [Lm.kids] at hp
  | lam t => simp [Lm.kids] at hp; subst hp; rw [Lm.dev, h]
  | app a b =>
    simp [Lm.kids] at hp
    rcases hp with rfl | rfl
    · rw [Lm.dev, h]
    · rw [Lm.dev, h]; cases a.dev <;> rfl
theorem dev_all {t : Lm} {ks : List Lm} (h : t.kids.map Lm.dev = ks.map some) : ∃ o, nodeOf t.kd t.nm ks = some o ∧ t.dev = devEnd t o ∧ (t.isRed = true → o.isRed = true) ∧ (t.ok = true → o.bd) ∧ o.sz ≤ 301 := by
  cases t with
  | var n =>
    simp [Lm.kids] at h
    subst h
    exact ⟨.var n, by simp [nodeOf, Lm.kd, Lm.nm], by rw [Lm.dev, devEnd]; simp [Lm.isRed], by simp [Lm.isRed], fun hk => Lm.ok_bd hk, by simp [Lm.sz]⟩
  | lam t =>
    match ks, h with
    | [q], h =>
      simp [Lm.kids] at h
      have hg := Lm.dev_good h
      have hs := Lm.good_sz hg
      exact ⟨.lam q, by simp [nodeOf, Lm.kd, Lm.nm], by rw [Lm.dev, h, devEnd]; simp [Lm.isRed], by simp [Lm.isRed], fun _ => Lm.ok_bd (t := q) hs.2.2, by simp only [Lm.sz]; omega⟩
    | [], h => simp [Lm.kids] at h
    | _ :: _ :: _, h => simp [Lm.kids] at h
  | app a b =>
    match ks, h with
    | [p, q], h =>
      simp [Lm.kids] at h
      have hs := Lm.good_sz (Lm.dev_good h.1)
      have hs2 := Lm.good_sz (Lm.dev_good h.2)
      refine ⟨.app p q, by simp [nodeOf, Lm.kd, Lm.nm], by rw [Lm.dev, h.1, devEnd]; simp only; rw [h.2]; rfl, fun hr => ?_, fun _ => ⟨Lm.ok_bd hs.2.2, Lm.ok_bd hs2.2.2⟩, by simp only [Lm.sz]; omega⟩
      exact Lm.dev_lam hr h.1
    | [], h => simp [Lm.kids] at h
    | [_], h => simp [Lm.kids] at h
    | _ :: _ :: _ :: _, h => simp [Lm.kids] at h
theorem devEnd_chk {t o : Lm} : devEnd t o = if (if t.isRed then o.beta else o).good then some (if t.isRed then o.beta else o) else none := rfl
/-- The answer of developed. -/
def DvAns (P : Nat → Prop) (N : Nat) (r : Option Lm) (e : Ending) (w' : World) : Prop := match r with
  | none => ∃ p, e = .returned (.tuple #[.pointer p, .bool false])
  | some s => ∃ b, e = .returned (.tuple #[.pointer (some ⟨b, 0, none⟩), .bool true]) ∧ TrIn w' (fun x => P x ∨ N ≤ x) s b
def DvC (N : Nat) : Prop := ∀ (t : Lm), t.sz ≤ N → ∀ (b : Nat) (P : Nat → Prop) (w : World), TrIn w P t b → t.ok = true →
    Calls Try.prog 63 #[.pointer (some ⟨b, 0, none⟩)] w fun e w' => DvAns P w.heap.size t.dev e w' ∧ Below w.heap.size w w'
theorem ok_kid {t s : Lm} (h : t.ok = true) (hs : s ∈ t.kids) : s.ok = true := by
  cases t with
  | var n => simp [Lm.kids] at hs
  | lam t => simp [Lm.kids] at hs; subst hs; exact h
  | app p q => simp only [Lm.ok, Bool.and_eq_true] at h; simp [Lm.kids] at hs; rcases hs with rfl | rfl; exact h.1; exact h.2
set_option maxHeartbeats 8000000 in
set_option maxRecDepth 100000 in
theorem developed_step (N : Nat) (IH : ∀ n, n < N → DvC n) : DvC N := by
  intro t ht b P w hT hok
  have HIH := hideT' IH
  have HT := hideT' hT
  have HTN := hideT' ht
  have HOK := hideT' hok
  obtain ⟨o, c, hpc, _⟩ := hT.parts
  obtain ⟨u, k0, k1, k2⟩ := hT.own3
  have hbl := hT.lt
  obtain ⟨q, hq⟩ : ∃ q, q = t.kids.length := ⟨_, rfl⟩
  have hq2 : q ≤ 2 := by rw [hq]; cases t <;> simp [Lm.kids]
  rw [← hq] at hpc
  have HQ := hideT' hq
  have hmk := make_ptree q (by omega)
  obtain ⟨kd, hkd⟩ : ∃ kd, kd = t.kd := ⟨_, rfl⟩
  obtain ⟨nm, hnm⟩ : ∃ nm, nm = t.nm := ⟨_, rfl⟩
  rw [← hkd] at k0
  rw [← hnm] at k1
  have HKN := hideT' (And.intro hkd hnm)
  clear IH ht hT hok hq hkd hnm
  have HNEW : Hid (RecAt (w.alloc (.cells ((List.replicate q (none : Option Nat)).flatMap ptrL).toArray 60)) w.heap.size 60 ptrL (List.replicate q none)) := RowAt.new _ _ _
  have HBN : Hid (Below w.heap.size w (w.alloc (.cells ((List.replicate q (none : Option Nat)).flatMap ptrL).toArray 60))) := (Below.refl _ _).alloc (Nat.le_refl _) _
  go_enter Try.func63, Try.ntmps63
  go_wp2_with fail
  clear hmk
  obtain ⟨G, hG⟩ : ∃ G, G = w.heap.size := ⟨_, rfl⟩
  have HG := hideT' hG
  rw [← hG]
  clear hG
  go_loopg [21] q (fun gg i wr => ∃ (As Bs : List Lm) (ks : List (Nat × Lm)), gg = Bs.length ∧ Hid (t.kids = As ++ Bs) ∧ i = .int .i64 (As.length : Int) ∧ Hid (As.map Lm.dev = (ks.map Prod.snd).map some ∧ RecAt wr G 60 ptrL (ks.map (fun p => some p.1) ++ List.replicate (q - As.length) none) ∧ (∀ p ∈ ks, TrIn wr (fun x => (P x ∧ x < w.heap.size) ∨ G < x) p.2 p.1) ∧ Below w.heap.size w wr))
  case atStart => exact ⟨[], t.kids, [], by rw [HQ.out], rfl, rfl, ⟨rfl, by rw [HG.out]; simpa using HNEW.out, by simp, HBN.out⟩⟩
  case round =>
    obtain ⟨As, Bs, ks, hgg, HA, rfl, HS⟩ := hrel
    obtain ⟨j, hj⟩ : ∃ j, j = As.length := ⟨_, rfl⟩
    rw [← hj] at HS ⊢
    have HJ := hideT' hj
    clear hj
    obtain ⟨hks, hR, hTk, hB⟩ := HS.out
    have hkl : ks.length = j := by
      have := congrArg List.length hks
      simp only [List.length_map] at this
      rw [HJ.out, this]
    have hTr : TrIn wr (fun x => P x ∧ x < w.heap.size) t b := TrIn.keep (w := w) hB.size (fun x hx hl => hB.block x hl) (fun x h hl => ⟨h, hl⟩) HT.out
    have hGw : G < wr.heap.size := hR.lt
    cases Bs with
    | nil =>
      have hjm : j = q := by rw [HJ.out, HQ.out, HA.out]; simp
      have hnl : ¬ (j : Int) < (q : Int) := by omega
      have HKids : Hid (KidsAt wr (fun x => (P x ∧ x < w.heap.size) ∨ G ≤ x) (.slice (some ⟨G, 0, none⟩) q q) ks) := by
        refine ⟨_, q, by rw [hkl, hjm], fun hn => ⟨G, rfl, ⟨hR.lt, .inr (Nat.le_refl _)⟩, fun i p hi => ?_⟩, fun p hp => TrIn.mono (fun x hx _ => hx.imp id Nat.le_of_lt) (hTk p hp)⟩
        have hil : i < ks.length := (List.getElem?_eq_some_iff.1 hi).1
        have := hR.cell (c := 1) ptrL_len i 0 (by rw [List.length_append, List.length_map]; omega) (by decide)
        rw [Nat.mul_one, Nat.add_zero] at this
        rw [this]
        have e : (ks.map (fun p : Nat × Lm => some p.1) ++ List.replicate (q - j) none).getD i default = some p.1 := by
          rw [List.getD, List.getElem?_append_left (by rw [List.length_map]; exact hil), List.getElem?_map, hi]
          rfl
        rw [e]; rfl
      have hka : t.kids.map Lm.dev = (ks.map Prod.snd).map some := by rw [HA.out, List.append_nil]; exact hks
      obtain ⟨oo, ho1, ho2, ho3, ho4, ho5⟩ := dev_all hka
      rw [← HKN.out.1, ← HKN.out.2] at ho1
      have HO := hideT' (And.intro ho1 (And.intro ho2 (And.intro ho3 (And.intro (ho4 HOK.out) ho5))))
      have HPS : Hid (∀ p ∈ ptsOf ks, p.2.1 ≤ 1000000 ∧ p.2.2 ≤ 1000000) := by
        intro p hp
        obtain ⟨y, hy, rfl⟩ := List.mem_map.1 hp
        have h1 : some y.2 ∈ (ks.map Prod.snd).map some := List.mem_map_of_mem (List.mem_map_of_mem hy)
        rw [← hka] at h1
        obtain ⟨s, _, hs⟩ := List.mem_map.1 h1
        have h2 := Lm.good_sz (Lm.dev_good hs)
        have h3 := y.2.dp_sz
        simp only; omega
      have e0 : wr.cell? ⟨b, 0, none⟩ = some (.int .i64 kd) := by rw [hB.cell (p := ⟨b, 0, none⟩) hbl]; exact k0
      have e1 : wr.cell? ⟨b, 1, none⟩ = some (.int .i64 nm) := by rw [hB.cell (p := ⟨b, 1, none⟩) hbl]; exact k1
      have e2 : wr.cell? ⟨b, 2, none⟩ = some (.int .i64 u) := by rw [hB.cell (p := ⟨b, 2, none⟩) hbl]; exact k2
      have HBB := hideT' hB
      have HKL := hideT' hkl
      have hbr : b < wr.heap.size := by have := hB.size; omega
      have HTR := hideT' hTr
      clear hks hR hTk hB hTr hkl HS k0 k1 k2 hpc hgg hka ho1 ho2 ho3 ho4 ho5
      go_wp2_with fail
      refine (treeOf_any kd nm u _ (ptsOf ks) wr HKids.out.pts (by unfold ptsOf; rw [List.length_map, HKL.out]; omega) HPS.out).mono ?_
      intro e w2 hN
      obtain ⟨b', rfl, hbb, hTr2, hB2⟩ := treeNew_at HKids.out HO.out.1 hN
      have HT2 : Hid (TrIn w2 (fun x => (P x ∧ x < w.heap.size) ∨ w.heap.size ≤ x) oo b') := TrIn.mono (fun x hx _ => by have := HG.out; have := HBB.out.size; rcases hx with (hx | hx) | hx; exact .inl hx; exact .inr (by omega); exact .inr (by omega)) hTr2
      have HB2 : Hid (Below w.heap.size w w2) := HBB.out.trans (hB2.mono HBB.out.size)
      have HC3 := hideT' (isRedex_any t b _ w2 (TrIn.below hB2 HTR.out))
      obtain ⟨rr, hrr⟩ : ∃ rr, rr = t.isRed := ⟨_, rfl⟩
      rw [← hrr] at HC3
      have HRR := hideT' hrr
      clear hN hTr2 hB2 hrr
      go_wp2_with fail
      refine HC3.out.mono ?_
      rintro e w3 ⟨rfl, hw3⟩
      rw [hw3]
      clear hw3
      cases rr with
      | true =>
        have HC4 := hideT' (reduced_any oo b' _ w2 HT2.out (HO.out.2.2.1 HRR.out.symm) (by have := HO.out.2.2.2.2; omega) HO.out.2.2.2.1)
        have hbz := Lm.beta_sz oo (by have := HO.out.2.2.2.2; omega)
        go_wp2_with fail
        refine HC4.out.mono ?_
        rintro e w4 ⟨⟨b4, rfl, hT4⟩, hB4⟩
        have HT4 : Hid (TrIn w4 (fun x => P x ∨ w.heap.size ≤ x) oo.beta b4) := TrIn.mono (fun x hx _ => by have := HB2.out.size; rcases hx with (hx | hx) | hx; exact .inl hx.1; exact .inr hx; exact .inr (by omega)) hT4
        have HB4 : Hid (Below w.heap.size w w4) := HB2.out.trans (hB4.mono HB2.out.size)
        have HC5 := hideT' (isGood_any oo.beta b4 _ w4 HT4.out (by omega))
        obtain ⟨gd, hgd⟩ : ∃ gd, gd = oo.beta.good := ⟨_, rfl⟩
        rw [← hgd] at HC5
        have HE : Hid (t.dev = if gd then some oo.beta else none) := by unfold Hid; rw [HO.out.2.1, devEnd_chk, ← HRR.out]; simp only [if_true]; rw [← hgd]
        clear hT4 hB4 hbz hgd
        go_wp2_with fail
        refine HC5.out.mono ?_
        rintro e w5 ⟨rfl, hB5⟩
        have HF : Hid (TrIn w5 (fun x => P x ∨ w.heap.size ≤ x) oo.beta b4 ∧ Below w.heap.size w w5) := ⟨TrIn.below hB5 HT4.out, HB4.out.trans (hB5.mono HB4.out.size)⟩
        clear hB5
        go_wp2
        go_ret2
        refine ⟨?_, HF.out.2⟩
        rw [HE.out]
        cases gd with
        | true => exact ⟨b4, rfl, HF.out.1⟩
        | false => exact ⟨_, rfl⟩
      | false =>
        have HC5 := hideT' (isGood_any oo b' _ w2 HT2.out (by have := HO.out.2.2.2.2; omega))
        obtain ⟨gd, hgd⟩ : ∃ gd, gd = oo.good := ⟨_, rfl⟩
        rw [← hgd] at HC5
        have HE : Hid (t.dev = if gd then some oo else none) := by unfold Hid; rw [HO.out.2.1, devEnd_chk, ← HRR.out]; simp only [Bool.false_eq_true, if_false]; rw [← hgd]
        clear hgd
        go_wp2_with fail
        refine HC5.out.mono ?_
        rintro e w5 ⟨rfl, hB5⟩
        have HF : Hid (TrIn w5 (fun x => P x ∨ w.heap.size ≤ x) oo b' ∧ Below w.heap.size w w5) := ⟨TrIn.mono (fun x hx _ => by rcases hx with hx | hx; exact .inl hx.1; exact .inr hx) (TrIn.below hB5 HT2.out), HB2.out.trans (hB5.mono HB2.out.size)⟩
        clear hB5
        go_wp2
        go_ret2
        refine ⟨?_, HF.out.2⟩
        rw [HE.out]
        cases gd with
        | true => exact ⟨b', rfl, HF.out.1⟩
        | false => exact ⟨_, rfl⟩
    | cons T Bs =>
      have hil : (j : Int) < (q : Int) := by rw [HQ.out, HA.out, List.length_append, ← HJ.out]; simp; omega
      have hkj : t.kids[j]? = some T := by rw [HA.out, HJ.out]; simp
      have hTm : T ∈ t.kids := List.mem_of_getElem? hkj
      obtain ⟨o', c', hpc', hkid⟩ := hTr.parts
      have hoo : o' = o := by
        have h1 : wr.cell? ⟨b, 3, none⟩ = w.cell? ⟨b, 3, none⟩ := hB.cell (p := ⟨b, 3, none⟩) hbl
        rw [hpc', hpc] at h1
        injection h1 with h1
        injection h1 with h1
      subst hoo
      obtain ⟨g, b1, ho', hg, _, hcb1, hT1⟩ := hkid j T hkj
      subst ho'
      have hTs := Lm.kids_lt hTm
      have HCALL := hideT' (HIH.out T.sz (by have := HTN.out; omega) T (Nat.le_refl _) b1 _ wr hT1 (ok_kid HOK.out hTm))
      have HSS := hideT' (And.intro hks (And.intro hTk (And.intro hB (And.intro hkl hTm))))
      have HR := hideT' hR
      clear hks hTk hB hTr hpc' hkid hT1 hkj hTm hR HS hkl
      go_wp2_with fail
      refine HCALL.out.mono ?_
      rintro e w5 ⟨hans, hB5⟩
      obtain ⟨hks, hTk, hB, hkl, hTm⟩ := HSS.out
      cases hdv : T.dev with
      | none =>
        rw [hdv] at hans
        obtain ⟨p5, rfl⟩ := hans
        have HE : Hid (t.dev = none) := dev_none hTm hdv
        have HF : Hid (Below w.heap.size w w5) := hB.trans (hB5.mono hB.size)
        clear hdv hks hTk hB hkl hTm hB5
        go_wp2
        go_ret2
        exact ⟨by rw [HE.out]; exact ⟨_, rfl⟩, HF.out⟩
      | some D =>
        rw [hdv] at hans
        obtain ⟨b', rfl, hT5⟩ := hans
        have hR5 : RecAt w5 G 60 ptrL (ks.map (fun p => some p.1) ++ List.replicate (q - j) none) := HR.out.below hB5 hGw
        have HT5 := hideT' hT5
        have HB5 := hideT' hB5
        have HDV := hideT' hdv
        have HSL : Hid (j < (ks.map (fun p : Nat × Lm => some p.1) ++ List.replicate (q - j) none).length) := by unfold Hid; rw [List.length_append, List.length_map, List.length_replicate, hkl]; omega
        clear hT5 hB5 hks hTk hB hkl hTm hdv
        go_wp2_with (refine store_rec1 rfl 60 _ _ rfl rfl (fun b : Option Nat => .pointer (b.map fun b => ⟨b, 0, none⟩)) (fun _ => rfl) one_ptree G j (some b') rfl rfl _ hR5 HSL.out ?_; intro w6 hR6 hg6 hs6; have HG6 := hideT' hg6; have HR6 := hideT' hR6; clear hg6 hR6)
        obtain ⟨hks, hTk, hB, hkl, hTm⟩ := HSS.out
        have HEND : Hid ((As ++ [T]).map Lm.dev = ((ks ++ [(b', D)]).map Prod.snd).map some ∧ RecAt w6 G 60 ptrL ((ks ++ [(b', D)]).map (fun p => some p.1) ++ List.replicate (q - (As ++ [T]).length) none) ∧ (∀ p ∈ ks ++ [(b', D)], TrIn w6 (fun x => (P x ∧ x < w.heap.size) ∨ G < x) p.2 p.1) ∧ Below w.heap.size w w6) := by
          have hGw0 : ¬ ((P G ∧ G < w.heap.size) ∨ G < G) := by have := HG.out; omega
          refine ⟨by rw [List.map_append, hks]; simp [HDV.out], ?_, fun p hp => ?_, ?_⟩
          · have e1 : (ks.map (fun p : Nat × Lm => some p.1) ++ List.replicate (q - j) none).set j (some b') = (ks ++ [(b', D)]).map (fun p : Nat × Lm => some p.1) ++ List.replicate (q - (As ++ [T]).length) none := by
              rw [List.set_append_right _ _ (by rw [List.length_map, hkl]; exact Nat.le_refl _), List.length_map, hkl, Nat.sub_self, List.length_append, ← HJ.out, List.length_singleton]
              obtain ⟨y, hy⟩ : ∃ y, q - j = y + 1 := ⟨q - j - 1, by omega⟩
              rw [hy, show q - (j + 1) = y by omega, List.replicate_succ, List.set_cons_zero, List.map_append]
              simp
            have h3 := HR6.out
            rw [e1] at h3
            exact h3
          · rcases List.mem_append.1 hp with hp | hp
            · exact TrIn.grown HG6.out hGw0 (TrIn.below HB5.out (hTk p hp))
            · rw [List.mem_singleton] at hp
              subst hp
              exact TrIn.grown HG6.out hGw0 (TrIn.mono (fun x hx _ => hx.imp id (fun h => Nat.lt_of_lt_of_le hGw h)) HT5.out)
          · exact (hB.trans (HB5.out.mono hB.size)).grown HG6.out (by have := hB.size; have := HB5.out.size; omega) (by intro k hk; cases hk; rw [HG.out]; exact Nat.le_refl _)
        have HA2 : Hid (t.kids = (As ++ [T]) ++ Bs) := by unfold Hid; rw [HA.out]; simp
        clear hks hTk hB hkl hTm
        go_roundg Bs.length
        case measure => first | omega | (rw [hgg]; simp)
        case rel => exact ⟨As ++ [T], Bs, ks ++ [(b', D)], rfl, HA2, by rw [List.length_append, ← HJ.out]; go_num, HEND⟩
theorem developed_all : ∀ N, DvC N := by
  intro N
  induction N using Nat.strongRecOn with
  | _ N IH => exact developed_step N IH
end Go.Proofs.Ytbnagagdboeedaa
