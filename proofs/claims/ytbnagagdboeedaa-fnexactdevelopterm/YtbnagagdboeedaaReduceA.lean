/-
  What reduced of the program, lcBeta and lcAt of the model make.
-/
import Derived.Test.YtbnagagdboeedaaImplChange
import Derived.Test.YtbnagagdboeedaaImplSub
import Derived.Test.YtbnagagdboeedaaSpecSubst
namespace Go.Proofs.Ytbnagagdboeedaa
open Go.RowKit BL
set_option linter.unusedVariables false

theorem isRed_form {t : Lm} (h : t.isRed = true) : ∃ body arg, t = .app (.lam body) arg := by
  cases t with
  | var n => cases h
  | lam t => cases h
  | app s a => cases s with
    | var n => cases h
    | app p q => cases h
    | lam body => exact ⟨body, a, rfl⟩
set_option maxHeartbeats 4000000 in
set_option maxRecDepth 100000 in
theorem reduced_any : ChgOk 67 Lm.isRed Lm.beta 400 := by
  intro t b P w hT hred hsz hbd
  obtain ⟨body, arg, rfl⟩ := isRed_form hred
  obtain ⟨_, u, g, c, b1, b2, hRb, hg, g0, g1, hT1, hT2⟩ := hT
  obtain ⟨_, u1, h1, c1, b3, hRb1, hh, h0, hT3⟩ := hT1
  have k3 : w.cell? ⟨b, 3, none⟩ = some (.slice (some ⟨g, 0, none⟩) 2 c) := by rw [cell_of_row _ _ _ _ _ _ hRb]; rfl
  have l3 : w.cell? ⟨b1, 3, none⟩ = some (.slice (some ⟨h1, 0, none⟩) 1 c1) := by rw [cell_of_row _ _ _ _ _ _ hRb1]; rfl
  have hbl := hRb.lt
  have hb1l := hRb1.lt
  have hgl := hg.1
  have hhl := hh.1
  simp only [Lm.sz] at hsz
  have HC : Hid (∀ w', Below w.heap.size w w' → Calls Try.prog 106 #[.pointer (some ⟨b3, 0, none⟩), .int .i64 0, .pointer (some ⟨b2, 0, none⟩)] w' fun e w'' => (∃ b', e = .returned (.pointer (some ⟨b', 0, none⟩)) ∧ TrIn w'' (fun x => P x ∨ w'.heap.size ≤ x) (body.sub 0 arg 0) b') ∧ Below w'.heap.size w' w'') := by
    intro w' hB'
    exact substituted_in body b3 0 arg b2 P w' (TrIn.below hB' hT3) (TrIn.below hB' hT2) (by omega) (by omega) hbd.1 hbd.2 ⟨by omega, by omega⟩
  clear hRb hRb1 hT2 hT3 hbd hred hg hh
  go_enter Try.func67, Try.ntmps67
  go_wp2_with fail
  refine held_begin (fun w' => ∀ x, x < w.heap.size → w'.heap[x]? = w.heap[x]?) (by kernel_rfl) ?_
  have hS : ∀ x, x < w.heap.size → w.drew.heap[x]? = w.heap[x]? := fun _ _ => rfl
  refine held_valS 0 (some 3) rfl rfl (by kernel_rfl) (by kernel_rfl) (by kernel_rfl) noPanic_put rfl (.pointer (some ⟨b, 0, none⟩)) (fun _ _ => by go_simp) hS ?_
  simp only [Act.put, List.setIfInBounds_toArray, List.set_cons_zero, List.set_cons_succ]
  refine held_valS 1 (some 4) rfl rfl (by kernel_rfl) (by kernel_rfl) (by kernel_rfl) noPanic_put rfl (.pointer (some ⟨b, 0, none⟩)) (fun _ _ => by go_simp) hS ?_
  simp only [Act.put, List.setIfInBounds_toArray, List.set_cons_zero, List.set_cons_succ]
  refine held_valS 2 (some 5) rfl rfl (by kernel_rfl) (by kernel_rfl) (by kernel_rfl) noPanic_put rfl (.pointer (some ⟨b, 3, none⟩)) (fun _ _ => by go_simp) hS ?_
  simp only [Act.put, List.setIfInBounds_toArray, List.set_cons_zero, List.set_cons_succ]
  refine held_valS 3 (some 6) rfl rfl (by kernel_rfl) (by kernel_rfl) (by kernel_rfl) noPanic_put rfl (.slice (some ⟨g, 0, none⟩) 2 c) (fun w' h => by have q := ((World.cell?_of_block (w := w) (a := ⟨b, 3, none⟩) (h (b) (by omega))).trans k3); go_simp) hS ?_
  simp only [Act.put, List.setIfInBounds_toArray, List.set_cons_zero, List.set_cons_succ]
  refine held_valS 4 (some 7) rfl rfl (by kernel_rfl) (by kernel_rfl) (by kernel_rfl) noPanic_put rfl (.pointer (some ⟨g, 0, none⟩)) (fun _ _ => by go_simp) hS ?_
  simp only [Act.put, List.setIfInBounds_toArray, List.set_cons_zero, List.set_cons_succ]
  refine held_valS 5 (some 8) rfl rfl (by kernel_rfl) (by kernel_rfl) (by kernel_rfl) noPanic_put rfl (.pointer (some ⟨b1, 0, none⟩)) (fun w' h => by have q := ((World.cell?_of_block (w := w) (a := ⟨g, 0, none⟩) (h (g) (by omega))).trans g0); go_simp) hS ?_
  simp only [Act.put, List.setIfInBounds_toArray, List.set_cons_zero, List.set_cons_succ]
  refine held_valS 6 (some 9) rfl rfl (by kernel_rfl) (by kernel_rfl) (by kernel_rfl) noPanic_put rfl (.pointer (some ⟨b1, 0, none⟩)) (fun _ _ => by go_simp) hS ?_
  simp only [Act.put, List.setIfInBounds_toArray, List.set_cons_zero, List.set_cons_succ]
  refine held_valS 7 (some 10) rfl rfl (by kernel_rfl) (by kernel_rfl) (by kernel_rfl) noPanic_put rfl (.pointer (some ⟨b1, 3, none⟩)) (fun _ _ => by go_simp) hS ?_
  simp only [Act.put, List.setIfInBounds_toArray, List.set_cons_zero, List.set_cons_succ]
  refine held_valS 8 (some 11) rfl rfl (by kernel_rfl) (by kernel_rfl) (by kernel_rfl) noPanic_put rfl (.slice (some ⟨h1, 0, none⟩) 1 c1) (fun w' h => by have q := ((World.cell?_of_block (w := w) (a := ⟨b1, 3, none⟩) (h (b1) (by omega))).trans l3); go_simp) hS ?_
  simp only [Act.put, List.setIfInBounds_toArray, List.set_cons_zero, List.set_cons_succ]
  refine held_valS 9 (some 12) rfl rfl (by kernel_rfl) (by kernel_rfl) (by kernel_rfl) noPanic_put rfl (.pointer (some ⟨h1, 0, none⟩)) (fun _ _ => by go_simp) hS ?_
  simp only [Act.put, List.setIfInBounds_toArray, List.set_cons_zero, List.set_cons_succ]
  refine held_valS 10 (some 13) rfl rfl (by kernel_rfl) (by kernel_rfl) (by kernel_rfl) noPanic_put rfl (.pointer (some ⟨b3, 0, none⟩)) (fun w' h => by have q := ((World.cell?_of_block (w := w) (a := ⟨h1, 0, none⟩) (h (h1) (by omega))).trans h0); go_simp) hS ?_
  simp only [Act.put, List.setIfInBounds_toArray, List.set_cons_zero, List.set_cons_succ]
  refine held_valS 11 (some 14) rfl rfl (by kernel_rfl) (by kernel_rfl) (by kernel_rfl) noPanic_put rfl (.pointer (some ⟨b, 0, none⟩)) (fun _ _ => by go_simp) hS ?_
  simp only [Act.put, List.setIfInBounds_toArray, List.set_cons_zero, List.set_cons_succ]
  refine held_valS 12 (some 15) rfl rfl (by kernel_rfl) (by kernel_rfl) (by kernel_rfl) noPanic_put rfl (.pointer (some ⟨b, 0, none⟩)) (fun _ _ => by go_simp) hS ?_
  simp only [Act.put, List.setIfInBounds_toArray, List.set_cons_zero, List.set_cons_succ]
  refine held_valS 13 (some 16) rfl rfl (by kernel_rfl) (by kernel_rfl) (by kernel_rfl) noPanic_put rfl (.pointer (some ⟨b, 3, none⟩)) (fun _ _ => by go_simp) hS ?_
  simp only [Act.put, List.setIfInBounds_toArray, List.set_cons_zero, List.set_cons_succ]
  refine held_valS 14 (some 17) rfl rfl (by kernel_rfl) (by kernel_rfl) (by kernel_rfl) noPanic_put rfl (.slice (some ⟨g, 0, none⟩) 2 c) (fun w' h => by have q := ((World.cell?_of_block (w := w) (a := ⟨b, 3, none⟩) (h (b) (by omega))).trans k3); go_simp) hS ?_
  simp only [Act.put, List.setIfInBounds_toArray, List.set_cons_zero, List.set_cons_succ]
  refine held_valS 15 (some 18) rfl rfl (by kernel_rfl) (by kernel_rfl) (by kernel_rfl) noPanic_put rfl (.pointer (some ⟨g, 1, none⟩)) (fun _ _ => by go_simp) hS ?_
  simp only [Act.put, List.setIfInBounds_toArray, List.set_cons_zero, List.set_cons_succ]
  refine held_valS 16 (some 19) rfl rfl (by kernel_rfl) (by kernel_rfl) (by kernel_rfl) noPanic_put rfl (.pointer (some ⟨b2, 0, none⟩)) (fun w' h => by have q := ((World.cell?_of_block (w := w) (a := ⟨g, 1, none⟩) (h (g) (by omega))).trans g1); go_simp) hS ?_
  simp only [Act.put, List.setIfInBounds_toArray, List.set_cons_zero, List.set_cons_succ]
  refine held_call 17 (some 20) (by kernel_rfl) rfl rfl rfl 106 #[.pointer (some ⟨b3, 0, none⟩), .int .i64 0, .pointer (some ⟨b2, 0, none⟩)] (by go_simp) _ (HC.out w.drew (Below.refl _ _).drew) ?_
  rintro e w5 ⟨⟨b5, rfl, hT5⟩, hw5⟩
  have hw5 : Below w.heap.size w w5 := ⟨hw5.os, hw5.tape, hw5.output, hw5.size, hw5.block⟩
  have hT5 : TrIn w5 (fun x => P x ∨ w.heap.size ≤ x) (body.sub 0 arg 0) b5 := hT5
  have hS5 : ∀ x, x < w.heap.size → w5.heap[x]? = w.heap[x]? := fun x hx => hw5.block x hx
  refine ⟨_, rfl, hS5, ?_⟩
  simp only [Act.put, List.setIfInBounds_toArray, List.set_cons_zero, List.set_cons_succ]
  refine held_assign 18 (some 2) (by kernel_rfl) rfl rfl _ rfl rfl (.pointer (some ⟨b5, 0, none⟩)) rfl hS5 ?_
  simp only [Act.put, List.setIfInBounds_toArray, List.set_cons_zero, List.set_cons_succ]
  refine wpAnyH_done (by kernel_rfl) ?_ _
  refine NoPanic.normal ?_
  have HF := hideT' (And.intro hT5 hw5)
  clear hT5 hw5 hS hS5
  go_wp2
  go_ret
  exact ⟨⟨b5, rfl, HF.out.1⟩, HF.out.2⟩
theorem call_reduced : ∀ args w, (callFunc 67 args).run Try.prog w = .ok (.enter 67 args) w := enters_of Try.func67 (by kernel_rfl) rfl
set_option maxHeartbeats 4000000 in
set_option maxRecDepth 100000 in
theorem lcBeta_any (t : Lm) (z : Value) (P : Nat → Prop) (w : World) (hz : LcIn w P t z) (hred : t.isRed = true) (hsz : t.sz ≤ 400) (hbd : t.bd) :
    Calls Try.prog 100 #[.agg (lcC t.kd t.nm z)] w fun e w' => (∃ z', e = .returned (.agg (lcC t.beta.kd t.beta.nm z')) ∧ LcIn w' (fun x => P x ∨ w.heap.size ≤ x) t.beta z') ∧ Below w.heap.size w w' := by
  obtain ⟨body, arg, rfl⟩ := isRed_form hred
  have hz0 := zero_lcT.1
  obtain ⟨g, c, z1, z2, rfl, hg, ⟨g0, g1, g2⟩, ⟨b0, b1, b2⟩, hz1, hz2⟩ := hz
  obtain ⟨h1, c1, z3, rfl, hh, ⟨h00, h10, h20⟩, hz3⟩ := hz1
  obtain ⟨o2, c2, rfl⟩ := hz2.form
  obtain ⟨o3, c3, rfl⟩ := hz3.form
  simp only [Lm.sz] at hsz
  obtain ⟨W, hWd⟩ : ∃ W, W = (w.alloc (.cells #[.int .i64 3, .int .i64 0, .slice (some ⟨g, 0, none⟩) 2 c] 54)).alloc (.cells #[.int .i64 0, .int .i64 0, .slice none 0 0] 54) := ⟨_, rfl⟩
  have hBW : Below w.heap.size w W := by rw [hWd]; exact ((Below.refl _ _).alloc (Nat.le_refl _) _).alloc (by simp) _
  have hWs : w.heap.size + 2 ≤ W.heap.size := by rw [hWd]; simp
  have hR0 : RowAt W w.heap.size 54 #[.int .i64 3, .int .i64 0, .slice (some ⟨g, 0, none⟩) 2 c] := by rw [hWd]; exact RowAt.old (RowAt.new _ _ _) _
  have hR1 : RowAt W (w.heap.size + 1) 54 #[.int .i64 0, .int .i64 0, .slice none 0 0] := by
    rw [hWd]
    have := RowAt.new (w.alloc (.cells #[.int .i64 3, .int .i64 0, .slice (some ⟨g, 0, none⟩) 2 c] 54)) 54 #[.int .i64 0, .int .i64 0, .slice none 0 0]
    rwa [World.size_alloc] at this
  have hgl := hg.1
  have hhl := hh.1
  have t2 : W.cell? ⟨w.heap.size, 2, none⟩ = some (.slice (some ⟨g, 0, none⟩) 2 c) := by rw [cell_of_row _ _ _ _ _ _ hR0]; rfl
  have g2 : W.cell? ⟨g, 2, none⟩ = some (.slice (some ⟨h1, 0, none⟩) 1 c1) := by rw [hBW.cell (p := ⟨g, 2, none⟩) hgl]; exact g2
  have b0 : W.cell? ⟨g, 3, none⟩ = some (.int .i64 arg.kd) := by rw [hBW.cell (p := ⟨g, 3, none⟩) hgl]; exact b0
  have b1 : W.cell? ⟨g, 4, none⟩ = some (.int .i64 arg.nm) := by rw [hBW.cell (p := ⟨g, 4, none⟩) hgl]; exact b1
  have b2 : W.cell? ⟨g, 5, none⟩ = some (.slice o2 arg.kids.length c2) := by rw [hBW.cell (p := ⟨g, 5, none⟩) hgl]; exact b2
  have h00 : W.cell? ⟨h1, 0, none⟩ = some (.int .i64 body.kd) := by rw [hBW.cell (p := ⟨h1, 0, none⟩) hhl]; exact h00
  have h10 : W.cell? ⟨h1, 1, none⟩ = some (.int .i64 body.nm) := by rw [hBW.cell (p := ⟨h1, 1, none⟩) hhl]; exact h10
  have h20 : W.cell? ⟨h1, 2, none⟩ = some (.slice o3 body.kids.length c3) := by rw [hBW.cell (p := ⟨h1, 2, none⟩) hhl]; exact h20
  have HC : Hid (∀ w', Below W.heap.size W w' → Calls Try.prog 129 #[.agg (lcC body.kd body.nm (.slice o3 body.kids.length c3)), .int .i64 0, .agg (lcC arg.kd arg.nm (.slice o2 arg.kids.length c2)), .int .i64 0] w' fun e w'' => (∃ z', e = .returned (.agg (lcC (body.sub 0 arg 0).kd (body.sub 0 arg 0).nm z')) ∧ LcIn w'' (fun x => (P x ∧ x < w.heap.size) ∨ w'.heap.size ≤ x) (body.sub 0 arg 0) z') ∧ Below w'.heap.size w' w'') := by
    intro w' hB'
    have hBB := hBW.trans (hB'.mono hBW.size)
    exact lcSubst_all 0 arg ⟨by omega, by omega⟩ hbd.2 (by omega) body.sz body (Nat.le_refl _) 0 _ _ (fun x => P x ∧ x < w.heap.size) w' (LcIn.keep (w := w) hBB.size (fun x _ hl => hBB.block x hl) (fun x h hl => ⟨h, hl⟩) hz3) (LcIn.keep (w := w) hBB.size (fun x _ hl => hBB.block x hl) (fun x h hl => ⟨h, hl⟩) hz2) hbd.1 (by omega)
  have HBW := hideT' hBW
  clear hz2 hz3 hbd hred hBW hg hh hR0 g0 g1
  show Calls Try.prog 100 #[.agg #[.int .i64 3, .int .i64 0, .slice (some ⟨g, 0, none⟩) 2 c]] w _
  go_enter Try.func100, Try.ntmps100
  go_wp2_with fail
  rw [← hWd]
  clear hWd
  refine held_begin (fun w' => ∀ x, x < w.heap.size + 1 → w'.heap[x]? = W.heap[x]?) (by kernel_rfl) ?_
  have hS : ∀ x, x < w.heap.size + 1 → W.drew.heap[x]? = W.heap[x]? := fun _ _ => rfl
  refine held_valS 0 (some 3) rfl rfl (by kernel_rfl) (by kernel_rfl) (by kernel_rfl) noPanic_put rfl (.pointer (some ⟨w.heap.size, 2, none⟩)) (fun _ _ => by go_simp) hS ?_
  simp only [Act.put, List.setIfInBounds_toArray, List.set_cons_zero, List.set_cons_succ]
  refine held_valS 1 (some 4) rfl rfl (by kernel_rfl) (by kernel_rfl) (by kernel_rfl) noPanic_put rfl (.slice (some ⟨g, 0, none⟩) 2 c) (fun w' h => by have q := ((World.cell?_of_block (w := W) (a := ⟨w.heap.size, 2, none⟩) (h (w.heap.size) (by omega))).trans t2); go_simp) hS ?_
  simp only [Act.put, List.setIfInBounds_toArray, List.set_cons_zero, List.set_cons_succ]
  refine held_valS 2 (some 5) rfl rfl (by kernel_rfl) (by kernel_rfl) (by kernel_rfl) noPanic_put rfl (.pointer (some ⟨g, 0, none⟩)) (fun _ _ => by go_simp) hS ?_
  simp only [Act.put, List.setIfInBounds_toArray, List.set_cons_zero, List.set_cons_succ]
  refine held_valS 3 (some 6) rfl rfl (by kernel_rfl) (by kernel_rfl) (by kernel_rfl) noPanic_put rfl (.pointer (some ⟨g, 2, none⟩)) (fun _ _ => by go_simp) hS ?_
  simp only [Act.put, List.setIfInBounds_toArray, List.set_cons_zero, List.set_cons_succ]
  refine held_valS 4 (some 7) rfl rfl (by kernel_rfl) (by kernel_rfl) (by kernel_rfl) noPanic_put rfl (.slice (some ⟨h1, 0, none⟩) 1 c1) (fun w' h => by have q := ((World.cell?_of_block (w := W) (a := ⟨g, 2, none⟩) (h (g) (by omega))).trans g2); go_simp) hS ?_
  simp only [Act.put, List.setIfInBounds_toArray, List.set_cons_zero, List.set_cons_succ]
  refine held_valS 5 (some 8) rfl rfl (by kernel_rfl) (by kernel_rfl) (by kernel_rfl) noPanic_put rfl (.pointer (some ⟨h1, 0, none⟩)) (fun _ _ => by go_simp) hS ?_
  simp only [Act.put, List.setIfInBounds_toArray, List.set_cons_zero, List.set_cons_succ]
  refine held_valS 6 (some 9) rfl rfl (by kernel_rfl) (by kernel_rfl) (by kernel_rfl) noPanic_put rfl (.agg (lcC body.kd body.nm (.slice o3 body.kids.length c3))) (fun w' h => by unfold lcC; have q0 := ((World.cell?_of_block (w := W) (a := ⟨h1, 0, none⟩) (h (h1) (by omega))).trans h00); have q1 := ((World.cell?_of_block (w := W) (a := ⟨h1, 1, none⟩) (h (h1) (by omega))).trans h10); have q2 := ((World.cell?_of_block (w := W) (a := ⟨h1, 2, none⟩) (h (h1) (by omega))).trans h20); go_simp) hS ?_
  simp only [Act.put, List.setIfInBounds_toArray, List.set_cons_zero, List.set_cons_succ]
  refine held_valS 7 (some 10) rfl rfl (by kernel_rfl) (by kernel_rfl) (by kernel_rfl) noPanic_put rfl (.pointer (some ⟨w.heap.size, 2, none⟩)) (fun _ _ => by go_simp) hS ?_
  simp only [Act.put, List.setIfInBounds_toArray, List.set_cons_zero, List.set_cons_succ]
  refine held_valS 8 (some 11) rfl rfl (by kernel_rfl) (by kernel_rfl) (by kernel_rfl) noPanic_put rfl (.slice (some ⟨g, 0, none⟩) 2 c) (fun w' h => by have q := ((World.cell?_of_block (w := W) (a := ⟨w.heap.size, 2, none⟩) (h (w.heap.size) (by omega))).trans t2); go_simp) hS ?_
  simp only [Act.put, List.setIfInBounds_toArray, List.set_cons_zero, List.set_cons_succ]
  refine held_valS 9 (some 12) rfl rfl (by kernel_rfl) (by kernel_rfl) (by kernel_rfl) noPanic_put rfl (.pointer (some ⟨g, 3, none⟩)) (fun _ _ => by go_simp) hS ?_
  simp only [Act.put, List.setIfInBounds_toArray, List.set_cons_zero, List.set_cons_succ]
  refine held_valS 10 (some 13) rfl rfl (by kernel_rfl) (by kernel_rfl) (by kernel_rfl) noPanic_put rfl (.agg (lcC arg.kd arg.nm (.slice o2 arg.kids.length c2))) (fun w' h => by unfold lcC; have q0 := ((World.cell?_of_block (w := W) (a := ⟨g, 3, none⟩) (h (g) (by omega))).trans b0); have q1 := ((World.cell?_of_block (w := W) (a := ⟨g, 4, none⟩) (h (g) (by omega))).trans b1); have q2 := ((World.cell?_of_block (w := W) (a := ⟨g, 5, none⟩) (h (g) (by omega))).trans b2); go_simp) hS ?_
  simp only [Act.put, List.setIfInBounds_toArray, List.set_cons_zero, List.set_cons_succ]
  refine held_call 11 (some 14) (by kernel_rfl) rfl rfl rfl 129 #[.agg (lcC body.kd body.nm (.slice o3 body.kids.length c3)), .int .i64 0, .agg (lcC arg.kd arg.nm (.slice o2 arg.kids.length c2)), .int .i64 0] (by go_simp) _ (HC.out W.drew (Below.refl _ _).drew) ?_
  rintro e w5 ⟨⟨z5, rfl, hz5⟩, hw5⟩
  have hw5 : Below W.heap.size W w5 := ⟨hw5.os, hw5.tape, hw5.output, hw5.size, hw5.block⟩
  have hz5 : LcIn w5 (fun x => (P x ∧ x < w.heap.size) ∨ W.heap.size ≤ x) (body.sub 0 arg 0) z5 := hz5
  have hsz5 := hw5.size
  have hS5 : ∀ x, x < w.heap.size + 1 → w5.heap[x]? = W.heap[x]? := fun x hx => hw5.block x (by omega)
  refine ⟨_, rfl, hS5, ?_⟩
  simp only [Act.put, List.setIfInBounds_toArray, List.set_cons_zero, List.set_cons_succ]
  obtain ⟨o5, c5, hzz5⟩ := hz5.form
  subst hzz5
  have hRz : RowAt w5 (w.heap.size + 1) 54 #[.int .i64 0, .int .i64 0, .slice none 0 0] := hR1.below hw5 (by omega)
  refine held_one 12 (by kernel_rfl) rfl rfl ?_
  intro K hK
  refine store_3_wp 54 (.tmp 2) (.tmp 14) rfl rfl zero_lcT.2 (w.heap.size + 1) (lcC (body.sub 0 arg 0).kd (body.sub 0 arg 0).nm (.slice o5 (body.sub 0 arg 0).kids.length c5)) rfl (lcC_one _ _ _ rfl) rfl rfl #[.int .i64 0, .int .i64 0, .slice none 0 0] rfl hRz ?_
  intro w9 hR9 hg9 hs9
  have hS9 : ∀ x, x < w.heap.size + 1 → w9.heap[x]? = W.heap[x]? := fun x hx => by rw [hg9.block x (by omega) (by intro e; injection e; omega)]; exact hS5 x hx
  refine hK.out _ _ hS9 ?_
  refine wpAnyH_done (by kernel_rfl) ?_ _
  refine NoPanic.normal ?_
  have HF : Hid (LcIn w9 (fun x => P x ∨ w.heap.size ≤ x) (body.sub 0 arg 0) (.slice o5 (body.sub 0 arg 0).kids.length c5) ∧ Below w.heap.size w w9 ∧ RowAt w9 (w.heap.size + 1) 54 (lcC (body.sub 0 arg 0).kd (body.sub 0 arg 0).nm (.slice o5 (body.sub 0 arg 0).kids.length c5))) := by
    refine ⟨LcIn.keep (w := w5) (by omega) (fun x hx hl => hg9.block x hl (by intro e; injection e with e; rcases hx with hx | hx <;> omega)) (fun x hx _ => by rcases hx with hx | hx; exact .inl hx.1; exact .inr (by omega)) hz5, (HBW.out.trans (hw5.mono HBW.out.size)).grown hg9 (by have := HBW.out.size; omega) (by intro k hk; cases hk; omega), hR9⟩
  clear hK hS hS5 hS9 hz5 hw5 hg9 hR9 hRz
  go_wp2
  exact bodyPost_ret (v := .agg (lcC (body.sub 0 arg 0).kd (body.sub 0 arg 0).nm (.slice o5 (body.sub 0 arg 0).kids.length c5))) (results_cell_row Try.results100 _ _ (w.heap.size + 1) 54 (lcC (body.sub 0 arg 0).kd (body.sub 0 arg 0).nm (.slice o5 (body.sub 0 arg 0).kids.length c5)) (0, 0) _ rfl HF.out.2.2 Try.underlying54 rfl zero_lcT.2) rfl ⟨⟨_, rfl, HF.out.1⟩, HF.out.2.1⟩
theorem nodeOf_kids {k n : Int} {ts : List Lm} {t : Lm} (h : nodeOf k n ts = some t) : t.kids = ts ∧ t.kd = k ∧ t.nm = n := by
  match ts, h with
  | [], h =>
    simp only [nodeOf] at h
    split at h
    · next hk => injection h with h; subst h; exact ⟨rfl, hk.symm, rfl⟩
    · cases h
  | [a], h =>
    simp only [nodeOf] at h
    split at h
    · next hk => injection h with h; subst h; exact ⟨rfl, hk.1.symm, hk.2.symm⟩
    · cases h
  | [a, b], h =>
    simp only [nodeOf] at h
    split at h
    · next hk => injection h with h; subst h; exact ⟨rfl, hk.1.symm, hk.2.symm⟩
    · cases h
  | _ :: _ :: _ :: _, h => simp [nodeOf] at h
theorem chgAt_ge (f : Lm → Lm) : ∀ (t : Lm) (k : Nat), t.sz ≤ k → Lm.chgAt f t k = t
  | .var n, 0, h => by simp [Lm.sz] at h
  | .var n, k + 1, h => by rw [Lm.chgAt]
  | .lam t, 0, h => by simp [Lm.sz] at h
  | .lam t, k + 1, h => by simp only [Lm.sz] at h; rw [Lm.chgAt, if_neg (by omega)]
  | .app s t, 0, h => by simp [Lm.sz] at h
  | .app s t, k + 1, h => by simp only [Lm.sz] at h; rw [Lm.chgAt, if_neg (by omega), if_neg (by omega)]
theorem szL_kids (t : Lm) : szL t.kids + 1 = t.sz := by cases t <;> simp [Lm.kids, szL, Lm.sz]
/-- How many nodes are left to go. -/
def leftK (t : Lm) (k : Nat) : Int := if k < t.sz then -1 else (k : Int) - t.sz
def LcAtC (N : Nat) : Prop := ∀ (t : Lm), t.sz ≤ N → ∀ (k : Nat) (z : Value) (P : Nat → Prop) (w : World), LcIn w P t z → t.bd → t.sz ≤ 400 → k ≤ 1000 → (k < t.sz → ∃ s, t.subAt k = some s ∧ s.isRed = true) →
    Calls Try.prog 104 #[.agg (lcC t.kd t.nm z), .int .i64 (k : Int)] w fun e w' => (∃ z', e = .returned (.tuple #[.agg (lcC (Lm.chgAt Lm.beta t k).kd (Lm.chgAt Lm.beta t k).nm z'), .int .i64 (leftK t k)]) ∧ LcIn w' (fun x => P x ∨ w.heap.size ≤ x) (Lm.chgAt Lm.beta t k) z') ∧ Below w.heap.size w w'
/-- How many are left behind some parts. -/
def leftL (K : Nat) (As : List Lm) : Int := if K < szL As then -1 else (K : Int) - szL As
set_option maxHeartbeats 8000000 in
set_option maxRecDepth 100000 in
theorem lcAt_step (N : Nat) (IH : ∀ n, n < N → LcAtC n) : LcAtC N := by
  intro t ht k z P w hz hbd hsz hk1000 hsub
  have hz0 := zero_lcT.1
  obtain ⟨oz, cz, hzz⟩ := hz.form
  subst hzz
  have HZ := hideT' hz
  obtain ⟨W, hWd⟩ : ∃ W, W = (w.alloc (.cells #[.int .i64 t.kd, .int .i64 t.nm, .slice oz t.kids.length cz] 54)).alloc (.cells #[.int .i64 0, .int .i64 0, .slice none 0 0] 54) := ⟨_, rfl⟩
  have hBW : Below w.heap.size w W := by rw [hWd]; exact ((Below.refl _ _).alloc (Nat.le_refl _) _).alloc (by simp) _
  have hWs : w.heap.size + 2 = W.heap.size := by rw [hWd]; simp
  have hR0 : RowAt W w.heap.size 54 #[.int .i64 t.kd, .int .i64 t.nm, .slice oz t.kids.length cz] := by rw [hWd]; exact RowAt.old (RowAt.new _ _ _) _
  have hR1 : RowAt W (w.heap.size + 1) 54 #[.int .i64 0, .int .i64 0, .slice none 0 0] := by
    rw [hWd]
    have := RowAt.new (w.alloc (.cells #[.int .i64 t.kd, .int .i64 t.nm, .slice oz t.kids.length cz] 54)) 54 #[.int .i64 0, .int .i64 0, .slice none 0 0]
    rwa [World.size_alloc] at this
  have HBW := hideT' hBW
  have HWS := hideT' hWs
  by_cases hk0 : k = 0
  · subst hk0
    obtain ⟨s, hs1, hs2⟩ := hsub t.sz_pos
    have hts : t = s := by cases t <;> (rw [Lm.subAt] at hs1; injection hs1)
    subst hts
    have HE : Hid (Lm.chgAt Lm.beta t 0 = t.beta ∧ leftK t 0 = -1) := ⟨by cases t <;> rw [Lm.chgAt], by unfold leftK; rw [if_pos t.sz_pos]⟩
    have HC := hideT' (lcBeta_any t (.slice oz t.kids.length cz) (fun x => P x ∧ x < w.heap.size) W (LcIn.keep (w := w) hBW.size (fun x _ hl => hBW.block x hl) (fun x h hl => ⟨h, hl⟩) hz) hs2 (by omega) hbd)
    have HR1 := hideT' hR1
    obtain ⟨kd, hkd⟩ : ∃ kd, kd = t.kd := ⟨_, rfl⟩
    obtain ⟨nm, hnm⟩ : ∃ nm, nm = t.nm := ⟨_, rfl⟩
    obtain ⟨q, hq⟩ : ∃ q, q = t.kids.length := ⟨_, rfl⟩
    rw [← hkd, ← hnm, ← hq] at HC hWd
    rw [← hkd, ← hnm, ← hq]
    unfold lcC at HC ⊢
    clear IH hz hbd hsub hs1 hs2 hR0 hR1 hBW hWs hkd hnm hq
    go_enter Try.func104, Try.ntmps104
    go_wp2_with fail
    rw [← hWd]
    refine HC.out.mono ?_
    rintro e w5 ⟨⟨z5, rfl, hz5⟩, hB5⟩
    obtain ⟨o5, c5, hzz5⟩ := hz5.form
    subst hzz5
    have HRZ : Hid (RowAt w5 (w.heap.size + 1) 54 #[.int .i64 0, .int .i64 0, .slice none 0 0]) := HR1.out.below hB5 (by have := HWS.out; omega)
    have HZ5 := hideT' (And.intro hz5 hB5)
    clear hz5 hB5 hWd
    go_wp2_with (refine store_3 rfl 54 _ _ rfl rfl zero_lcT.2 (w.heap.size + 1) (lcC t.beta.kd t.beta.nm (.slice o5 t.beta.kids.length c5)) rfl (lcC_one _ _ _ rfl) rfl rfl _ rfl HRZ.out ?_; intro w9 hR9 hg9 hs9)
    have hs5 := HZ5.out.2.size
    have hww := HWS.out
    refine bodyPost_ret (v := .tuple #[.agg (lcC t.beta.kd t.beta.nm (.slice o5 t.beta.kids.length c5)), .int .i64 (-1)]) (res_lc_tmp Try.results104 _ _ (w.heap.size + 1) t.beta.kd t.beta.nm (.slice o5 t.beta.kids.length c5) (.int .i64 (-1)) rfl rfl hR9) rfl ⟨⟨.slice o5 t.beta.kids.length c5, by rw [HE.out.1, HE.out.2]; rfl, ?_⟩, (HBW.out.trans (HZ5.out.2.mono HBW.out.size)).grown hg9 (by omega) (by intro k hk; cases hk; omega)⟩
    rw [HE.out.1]
    exact LcIn.keep (w := w5) (by omega) (fun x hx hl => hg9.block x hl (by intro e; injection e with e; rcases hx with hx | hx <;> omega)) (fun x hx _ => by rcases hx with hx | hx; exact .inl hx.1; exact .inr (by omega)) HZ5.out.1
  · obtain ⟨K, rfl⟩ : ∃ K, k = K + 1 := ⟨k - 1, by omega⟩
    have hnode := nodeOf_kids (chgAt_node Lm.beta t K)
    have HSK : Hid ((Lm.chgAt Lm.beta t (K + 1)).kids = chgL Lm.beta (K + 1) 1 t.kids ∧ (Lm.chgAt Lm.beta t (K + 1)).kd = t.kd ∧ (Lm.chgAt Lm.beta t (K + 1)).nm = t.nm) := hnode
    have HLK : Hid (leftK t (K + 1) = leftL K t.kids) := by
      unfold Hid leftK leftL
      have := szL_kids t
      by_cases h : K + 1 < t.sz
      · rw [if_pos h, if_pos (by omega)]
      · rw [if_neg h, if_neg (by omega)]; omega
    have HSUB : Hid (∀ (As : List Lm) (T : Lm) (Bs : List Lm), t.kids = As ++ T :: Bs → szL As ≤ K → (K - szL As < T.sz → ∃ s, T.subAt (K - szL As) = some s ∧ s.isRed = true)) := by
      intro As T Bs hab h1 h2
      have hlt : K + 1 < t.sz := by
        have := szL_kids t
        rw [hab, szL_app] at this
        simp only [szL] at this
        omega
      obtain ⟨s, hs1, hs2⟩ := hsub hlt
      have := subAt_kid hs1 As T Bs hab (by omega) (by omega)
      rw [show K + 1 - (1 + szL As) = K - szL As by omega] at this
      exact ⟨s, this, hs2⟩
    have HIH := hideT' IH
    have HTN := hideT' ht
    have HBD := hideT' hbd
    obtain ⟨kd, hkd⟩ : ∃ kd, kd = t.kd := ⟨_, rfl⟩
    obtain ⟨nm, hnm⟩ : ∃ nm, nm = t.nm := ⟨_, rfl⟩
    obtain ⟨q, hq⟩ : ∃ q, q = t.kids.length := ⟨_, rfl⟩
    have hq2 : q ≤ 2 := by rw [hq]; cases t <;> simp [Lm.kids]
    rw [← hkd, ← hnm, ← hq] at hWd hR0
    rw [← hq] at HZ
    rw [← hkd, ← hnm, ← hq]
    rw [← hkd, ← hnm] at HSK
    have HQ := hideT' hq
    have HSZ : Hid (∀ s ∈ t.kids, s.sz < t.sz) := fun s hs => Lm.kids_lt hs
    obtain ⟨W3, hW3⟩ : ∃ W3, W3 = W.alloc (.cells #[.int .i64 kd, .int .i64 nm, .slice none 0 0] 54) := ⟨_, rfl⟩
    have hB3 : Below w.heap.size w W3 := by rw [hW3]; exact hBW.alloc (by omega) _
    have hs3 : W3.heap.size = w.heap.size + 3 := by rw [hW3, World.size_alloc]; omega
    have hRo : RowAt W3 (w.heap.size + 2) 54 (lcC kd nm (.slice none 0 0)) := by rw [hW3, hWs]; exact RowAt.new W _ _
    have HRR : Hid (RowAt W3 (w.heap.size + 1) 54 #[.int .i64 0, .int .i64 0, .slice none 0 0]) := by rw [hW3]; exact RowAt.old hR1 _
    have HOS := hideT' (OutZ.start (P := fun x => P x ∧ x < w.heap.size) hRo)
    have HB3 := hideT' hB3
    have HS3 := hideT' hs3
    have hKb : ((K : Int) + 1 == 0) = false := by simp only [beq_eq_false_iff_ne]; omega
    have hKz : ¬ (K : Int) + 1 = 0 := by omega
    have hwk : IntKind.i64.wrap ((K : Int) + 1 - 1) = (K : Int) := by rw [IntKind.wrap_i64]; omega
    have hcast : ((K + 1 : Nat) : Int) = (K : Int) + 1 := by omega
    rw [hcast]
    unfold lcC
    obtain ⟨i0, hi, hzz0, hzz1, hzz2⟩ := info_parts info_lcT
    clear IH hz hbd hsub hR0 hR1 hBW hWs hkd hnm hq hB3 hRo hs3 hcast hnode ht hk0
    go_enter Try.func104, Try.ntmps104
    go_wp2_with fail
    rw [← hWd, ← hW3]
    go_loopg [1, 23] q (fun gg kv i wr => ∃ (As Bs : List Lm) (z : Value) (ys : List Value) (kk : Int), gg = Bs.length ∧ Hid (t.kids = As ++ Bs ∧ kk = leftL K As) ∧ kv = .int .i64 kk ∧ i = .int .i64 (As.length : Int) ∧ Hid (OutZ W3 wr (w.heap.size + 2) kd nm (fun x => P x ∧ x < w.heap.size) (chgL Lm.beta (K + 1) 1 As) z ys) ∧ Hid (Below w.heap.size w wr))
    case atStart => exact ⟨[], t.kids, .slice none 0 0, [], (K : Int), by rw [HQ.out], ⟨rfl, by simp [leftL, szL]⟩, by go_num, rfl, HOS, HB3⟩
    case round =>
      obtain ⟨As, Bs, z, ys, kk, hgg, HA, rfl, rfl, HO, HB⟩ := hrel
      obtain ⟨j, hj⟩ : ∃ j, j = As.length := ⟨_, rfl⟩
      obtain ⟨ox, cx, hzx⟩ := own_formT HO.out.own
      rw [chgL_len, ← hj] at hzx
      subst hzx
      rw [← hj]
      have HJ := hideT' hj
      clear hj
      have hRz : RowAt wr (w.heap.size + 1) 54 #[.int .i64 0, .int .i64 0, .slice none 0 0] := HO.out.rowOf (by omega) HRR.out
      have hRo : RowAt wr (w.heap.size + 2) 54 (lcC kd nm (.slice ox j cx)) := HO.out.row
      have hws : w.heap.size + 2 < wr.heap.size := hRo.lt
      cases Bs with
      | nil =>
        have hjm : j = q := by rw [HJ.out, HQ.out, HA.out.1]; simp
        have hnl : ¬ (j : Int) < (q : Int) := by omega
        have HEK : Hid (t.kids = As) := by unfold Hid; rw [HA.out.1]; simp
        clear hgg hjm
        go_wp2_with (first | (refine wpList_load_row rfl 54 _ rfl (w.heap.size + 2) rfl 54 (lcC kd nm (.slice ox j cx)) (0, 0) _ hRo Try.underlying54 rfl zero_lcT.2 ?_) | (refine store_3 rfl 54 _ _ rfl rfl zero_lcT.2 (w.heap.size + 1) (lcC kd nm (.slice ox j cx)) rfl (lcC_one _ _ _ rfl) rfl rfl _ rfl hRz ?_; intro w5 hR5 hg5 hs5))
        have hfin : LcIn w5 (fun x => P x ∨ w.heap.size ≤ x) (Lm.chgAt Lm.beta t (K + 1)) (.slice ox j cx) := by
          have ho := HO.out
          rw [← HEK.out, ← HSK.out.1] at ho
          refine LcIn.keep (w := wr) (by omega) (fun x hx hl => hg5.block x hl (by intro e; injection e with e; have := HS3.out; rcases hx with hx | hx <;> omega)) (fun x hx _ => ?_) ho.done
          have := HS3.out
          rcases hx with hx | hx
          · exact .inl hx.1.1
          · exact .inr (by omega)
        exact bodyPost_ret (v := .tuple #[.agg (lcC kd nm (.slice ox j cx)), .int .i64 kk]) (res_lc_tmp Try.results104 _ _ (w.heap.size + 1) kd nm (.slice ox j cx) (.int .i64 kk) rfl rfl hR5) rfl ⟨⟨.slice ox j cx, by rw [HSK.out.2.1, HSK.out.2.2, HLK.out, HA.out.2, HEK.out]; rfl, hfin⟩, HB.out.grown hg5 (by have := HB.out.size; omega) (by intro k hk; cases hk; omega)⟩
      | cons T Bs =>
        have hil : (j : Int) < (q : Int) := by rw [HQ.out, HA.out.1, List.length_append, ← HJ.out]; simp; omega
        have hkj : t.kids[j]? = some T := by rw [HA.out.1, HJ.out]; simp
        have hTm : T ∈ t.kids := List.mem_of_getElem? hkj
        have hzr : LcIn wr (fun b => P b ∧ b < w.heap.size) t (.slice oz q cz) := LcIn.keep (w := w) HB.out.size (fun x hx hl => HB.out.block x hl) (fun x hx hl => ⟨hx, hl⟩) HZ.out
        obtain ⟨o', c', e', hpart⟩ := hzr.parts
        injection e' with e1 e2 e3
        subst e1
        clear e2 e3
        obtain ⟨g, z1, hoz, hg, ⟨k0, k1, k2⟩, hz1⟩ := hpart j T hkj
        subst hoz
        have hg1 := hg.1
        obtain ⟨oz1, cz1, hzz1'⟩ := hz1.form
        subst hzz1'
        obtain ⟨W2, hW2⟩ : ∃ W2, W2 = wr.alloc (.cells #[.int .i64 T.kd, .int .i64 T.nm, .slice oz1 T.kids.length cz1] 54) := ⟨_, rfl⟩
        have hB2 : Below wr.heap.size wr W2 := by rw [hW2]; exact (Below.refl _ _).alloc (Nat.le_refl _) _
        have hz2 : LcIn W2 (fun b => P b ∧ b < w.heap.size) T (.slice oz1 T.kids.length cz1) := LcIn.below hB2 hz1
        have hRk2 : RowAt W2 wr.heap.size 54 #[.int .i64 T.kd, .int .i64 T.nm, .slice oz1 T.kids.length cz1] := by rw [hW2]; exact RowAt.new wr _ _
        have hTs := HSZ.out T hTm
        have HB2 := hideT' hB2
        have hs2 : W2.heap.size = wr.heap.size + 1 := by rw [hW2]; simp
        have HS2 := hideT' hs2
        have HRS := hideT' (And.intro hRz (And.intro hRo hRk2))
        have HZ2 := hideT' hz2
        have HTM := hideT' hTm
        have hchs : szL (As ++ [T]) = szL As + T.sz := by rw [szL_app]; simp [szL]
        by_cases hin : szL As ≤ K
        · have hkk : kk = ((K - szL As : Nat) : Int) := by rw [HA.out.2, leftL, if_neg (by omega)]; omega
          have hk0n : (0 : Int) ≤ kk := by omega
          have HCALL := hideT' (HIH.out T.sz (by have := HTN.out; omega) T (Nat.le_refl _) (K - szL As) _ _ W2 hz2 (Lm.bd_kid HBD.out hTm) (by omega) (by omega) (HSUB.out As T Bs HA.out.1 hin))
          rw [← hkk] at HCALL
          obtain ⟨kn, hkn⟩ : ∃ kn, kn = leftK T (K - szL As) := ⟨_, rfl⟩
          rw [← hkn] at HCALL
          have HA2 : Hid (t.kids = (As ++ [T]) ++ Bs ∧ kn = leftL K (As ++ [T])) := by
            refine ⟨by rw [HA.out.1]; simp, ?_⟩
            rw [hkn]
            unfold leftK leftL
            rw [hchs]
            by_cases h : K - szL As < T.sz
            · rw [if_pos h, if_pos (by omega)]
            · rw [if_neg h, if_neg (by omega)]; omega
          have HCL : Hid (chgL Lm.beta (K + 1) 1 (As ++ [T]) = chgL Lm.beta (K + 1) 1 As ++ [Lm.chgAt Lm.beta T (K - szL As)]) := by
            unfold Hid
            rw [chgL_app]
            simp only [chgL]
            by_cases h : K - szL As < T.sz
            · rw [if_pos (by omega), show K + 1 - (1 + szL As) = K - szL As by omega]
            · rw [if_neg (by omega), chgAt_ge _ _ _ (by omega)]
          unfold lcC at HCALL
          clear hzr hpart hz1 hz2 hB2 hkj hTm hRz hRo hRk2 hTs hs2 hkk hkn hchs hin
          go_wp2_with fail
          rw [← hW2]
          refine HCALL.out.mono ?_
          rintro e w9 ⟨⟨z9, rfl, hz9⟩, hB9⟩
          obtain ⟨o9, c9, hzz9⟩ := hz9.form
          subst hzz9
          have hB29 : Below wr.heap.size wr w9 := HB2.out.trans (hB9.mono HB2.out.size)
          have hs9 := hB9.size
          have HRK9 := hideT' (HRS.out.2.2.below hB9 HRS.out.2.2.lt)
          have HB29 := hideT' hB29
          have HZ9 := hideT' hz9
          have HB9 : Hid (Below w.heap.size w w9) := HB.out.trans (hB29.mono HB.out.size)
          obtain ⟨k9, hk9⟩ : ∃ k9, k9 = (Lm.chgAt Lm.beta T (K - szL As)).kd := ⟨_, rfl⟩
          obtain ⟨n9, hn9⟩ : ∃ n9, n9 = (Lm.chgAt Lm.beta T (K - szL As)).nm := ⟨_, rfl⟩
          obtain ⟨l9, hl9⟩ : ∃ l9, l9 = (Lm.chgAt Lm.beta T (K - szL As)).kids.length := ⟨_, rfl⟩
          rw [← hl9] at HZ9
          rw [← hk9, ← hn9, ← hl9]
          have HN9 := hideT' (And.intro hk9 hn9)
          have hsw : wr.heap.size < w9.heap.size := by have := HS2.out; omega
          clear hk9 hn9 hl9 hz9 hB9 hB29 k0 k1 k2 hW2
          go_wp2_with (refine store_3 rfl 54 _ _ rfl rfl zero_lcT.2 wr.heap.size (lcC k9 n9 (.slice o9 l9 c9)) rfl (lcC_one _ _ _ rfl) rfl rfl _ rfl HRK9.out ?_; intro wx hRx hgx hsx; refine Hid.out ?_)
          unfold Hid
          have hgxb : ∀ x, x < w9.heap.size → x ≠ wr.heap.size → wx.heap[x]? = w9.heap[x]? := fun x hx hne => hgx.block x hx (by intro e; injection e with e; exact hne e)
          have HOX : Hid (OutZ W3 wx (w.heap.size + 2) kd nm (fun x => P x ∧ x < w.heap.size) (chgL Lm.beta (K + 1) 1 As) (.slice ox j cx) ys) := OutZ.moved HO.out (by omega) (fun x hx => by rw [hgxb x (by omega) (by omega)]; exact HB29.out.block x hx)
          have HPX : Hid (LcIn wx (OutP W3 (w.heap.size + 2) (fun x => P x ∧ x < w.heap.size) (.slice ox j cx)) (Lm.chgAt Lm.beta T (K - szL As)) (.slice o9 l9 c9)) := HO.out.part (Nat.le_refl _) (LcIn.keep (w := w9) (by omega) (fun x hx hl => hgxb x hl (by have := HS2.out; rcases hx with hx | hx <;> omega)) (fun _ h _ => h) HZ9.out) (fun x hx _ => by rcases hx with hx | hx; exact .inl ⟨hx, by omega⟩; exact .inr (by have := HS2.out; omega))
          have HRKX : Hid (RowAt wx wr.heap.size 54 (lcC k9 n9 (.slice o9 l9 c9))) := hRx
          have HBX9 : Hid (Below w.heap.size w wx) := HB9.out.grown hgx (by have := HB9.out.size; omega) (by intro k hk; cases hk; have := HB.out.size; omega)
          clear hRx hgx hsx hgxb
          have HLC : Hid (∀ jj uu, (lcL k9 n9 (.slice o9 l9 c9))[jj]? = some uu → (wx.alloc (.cells #[.int .i64 k9, .int .i64 n9, .slice o9 l9 c9] 54)).cell? ((⟨wx.heap.size, 0, none⟩ : Addr).add jj) = some uu) := lc_cells wx k9 n9 (.slice o9 l9 c9)
          have hown : wx.ownsRow W3.heap.size 54 3 (.slice ox j cx) j ys := by have := HOX.out.own; rwa [chgL_len, ← HJ.out] at this
          have HOWN := hideT' hown
          have hb3 : W3.heap.size ≤ wx.heap.size := HOX.out.size
          have HROW : Hid (RowAt (wx.alloc (.cells #[.int .i64 k9, .int .i64 n9, .slice o9 l9 c9] 54)) (w.heap.size + 2) 54 (lcC kd nm (.slice ox j cx))) := RowAt.old HOX.out.row _
          have HNB : Hid (∀ b, (Value.slice ox j cx).ownBlock = some b → W3.heap.size ≤ b) := fun b e => (hown.lt b e).1
          have r3 : wx.cell? ⟨w.heap.size + 2, 2, none⟩ = some (.slice ox j cx) := by rw [cell_of_row _ _ _ _ _ _ HOX.out.row]; rfl
          have s0 : wx.cell? ⟨wr.heap.size, 0, none⟩ = some (.int .i64 k9) := by rw [cell_of_row _ _ _ _ _ _ HRKX.out]; rfl
          have s1 : wx.cell? ⟨wr.heap.size, 1, none⟩ = some (.int .i64 n9) := by rw [cell_of_row _ _ _ _ _ _ HRKX.out]; rfl
          have s2 : wx.cell? ⟨wr.heap.size, 2, none⟩ = some (.slice o9 l9 c9) := by rw [cell_of_row _ _ _ _ _ _ HRKX.out]; rfl
          have hkl := HRKX.out.lt
          have hws9 : w.heap.size + 2 < wx.heap.size := HOX.out.row.lt
          clear hown
          go_wp2_with (first | (at_builtin; refine append_own3 _ rfl _ _ 52 rfl W3.heap.size 54 i0 (.agg #[.int .i64 0, .int .i64 0, .slice none 0 0]) 3 40 Try.underlying52 hi hzz0 hzz1 hzz2 rfl (by decide) (.slice ox j cx) j ys rfl (HOWN.out.alloc _) ⟨wx.heap.size, 0, none⟩ 1 1 (lcL k9 n9 (.slice o9 l9 c9)) rfl rfl HLC.out (lcL_one _ _ _ rfl) (by omega) (by unfold maxLen; omega) (by omega) (by simp; omega) ?_; intro v6 w6 hv6 hg6 hb6; obtain ⟨o6, c6, hv6e⟩ := own_formT hv6; subst hv6e; have hR6 : RowAt w6 (w.heap.size + 2) 54 (lcC kd nm (.slice ox j cx)) := HROW.out.grown hg6 (fun e => by have := HNB.out _ e.symm; have := HS3.out; omega); have HV6 := hideT' hv6; have HG6 := hideT' hg6; have HB6 := hideT' hb6; clear hv6 hg6 hb6) | (refine store_at rfl 52 _ _ rfl rfl (w.heap.size + 2) 2 (.slice o6 (j + 1) c6) rfl rfl one_sllc rfl 54 (lcC kd nm (.slice ox j cx)) hR6 (show 2 < 3 by omega) ?_; intro w7 hR7 hg7 hs7))
          have HEND : Hid (OutZ W3 w7 (w.heap.size + 2) kd nm (fun x => P x ∧ x < w.heap.size) (chgL Lm.beta (K + 1) 1 (As ++ [T])) (.slice o6 (j + 1) c6) (ys ++ lcL (Lm.chgAt Lm.beta T (K - szL As)).kd (Lm.chgAt Lm.beta T (K - szL As)).nm (.slice o9 l9 c9))) := by
            unfold Hid
            rw [HCL.out]
            refine OutZ.push HOX.out HPX.out ?_ HG6.out HB6.out hR7 hg7
            rw [chgL_len, ← HJ.out, ← HN9.out.1, ← HN9.out.2]
            exact HV6.out
          have HB7 : Hid (Below w.heap.size w w7) := ((HBX9.out.alloc (by have := HBX9.out.size; omega) _).grown HG6.out (by have := HBX9.out.size; simp; omega) (fun k e => by have := HNB.out k e; have := HS3.out; omega)).grown hg7 (by have := HBX9.out.size; have := HG6.out.size; simp at this; omega) (by intro k hk; cases hk; omega)
          clear hR7 hg7 hs7 hR6
          go_wp2
          go_roundg Bs.length
          case measure => first | omega | (rw [hgg]; simp)
          case rel => exact ⟨As ++ [T], Bs, .slice o6 (j + 1) c6, _, _, rfl, HA2, rfl, by rw [List.length_append, ← HJ.out]; go_num, HEND, HB7⟩
        · have hkk : kk = -1 := by rw [HA.out.2, leftL, if_pos (by omega)]
          subst hkk
          have HA2 : Hid (t.kids = (As ++ [T]) ++ Bs ∧ (-1 : Int) = leftL K (As ++ [T])) := ⟨by rw [HA.out.1]; simp, by unfold leftL; rw [hchs, if_pos (by omega)]⟩
          have HCL : Hid (chgL Lm.beta (K + 1) 1 (As ++ [T]) = chgL Lm.beta (K + 1) 1 As ++ [T]) := by
            unfold Hid
            rw [chgL_app]
            simp only [chgL]
            rw [if_neg (by omega)]
          obtain ⟨k9, hk9⟩ : ∃ k9, k9 = T.kd := ⟨_, rfl⟩
          obtain ⟨n9, hn9⟩ : ∃ n9, n9 = T.nm := ⟨_, rfl⟩
          obtain ⟨l9, hl9⟩ : ∃ l9, l9 = T.kids.length := ⟨_, rfl⟩
          obtain ⟨o9, ho9⟩ : ∃ o9, o9 = oz1 := ⟨_, rfl⟩
          obtain ⟨c9, hc9⟩ : ∃ c9, c9 = cz1 := ⟨_, rfl⟩
          rw [← hk9, ← hn9, ← hl9, ← ho9, ← hc9] at HRS
          rw [← hl9, ← ho9, ← hc9] at HZ2
          rw [← hk9] at k0
          rw [← hn9] at k1
          rw [← hl9, ← ho9, ← hc9] at k2
          rw [← hk9, ← hn9, ← hl9, ← ho9, ← hc9] at hW2
          have HOX : Hid (OutZ W3 W2 (w.heap.size + 2) kd nm (fun x => P x ∧ x < w.heap.size) (chgL Lm.beta (K + 1) 1 As) (.slice ox j cx) ys) := HO.out.below HB2.out
          have HPX : Hid (LcIn W2 (OutP W3 (w.heap.size + 2) (fun x => P x ∧ x < w.heap.size) (.slice ox j cx)) T (.slice o9 l9 c9)) := HO.out.part (Nat.le_refl _) HZ2.out (fun x hx _ => .inl ⟨hx, by omega⟩)
          have HRK2 : Hid (RowAt W2 wr.heap.size 54 (lcC k9 n9 (.slice o9 l9 c9))) := HRS.out.2.2
          have HBX2 : Hid (Below w.heap.size w W2) := HB.out.trans (HB2.out.mono HB.out.size)
          have HN9 := hideT' (And.intro hk9 hn9)
          rw [hW2] at HOX HPX HRK2 HBX2
          clear hW2
          clear hzr hpart hz1 hz2 hB2 hkj hTm hRz hRo hRk2 hTs hs2 hchs hin hk9 hn9 hl9 ho9 hc9
          have HLC : Hid (∀ jj uu, (lcL k9 n9 (.slice o9 l9 c9))[jj]? = some uu → ((wr.alloc (.cells #[.int .i64 k9, .int .i64 n9, .slice o9 l9 c9] 54)).alloc (.cells #[.int .i64 k9, .int .i64 n9, .slice o9 l9 c9] 54)).cell? ((⟨wr.heap.size + 1, 0, none⟩ : Addr).add jj) = some uu) := by
            have := lc_cells (wr.alloc (.cells #[.int .i64 k9, .int .i64 n9, .slice o9 l9 c9] 54)) k9 n9 (.slice o9 l9 c9)
            rw [World.size_alloc] at this
            exact this
          have hown : (wr.alloc (.cells #[.int .i64 k9, .int .i64 n9, .slice o9 l9 c9] 54)).ownsRow W3.heap.size 54 3 (.slice ox j cx) j ys := by have := HOX.out.own; rwa [chgL_len, ← HJ.out] at this
          have HOWN := hideT' hown
          have hb3 : W3.heap.size ≤ wr.heap.size := HO.out.size
          have HROW : Hid (RowAt ((wr.alloc (.cells #[.int .i64 k9, .int .i64 n9, .slice o9 l9 c9] 54)).alloc (.cells #[.int .i64 k9, .int .i64 n9, .slice o9 l9 c9] 54)) (w.heap.size + 2) 54 (lcC kd nm (.slice ox j cx))) := RowAt.old HOX.out.row _
          have HNB : Hid (∀ b, (Value.slice ox j cx).ownBlock = some b → W3.heap.size ≤ b) := fun b e => (hown.lt b e).1
          have r3 : wr.cell? ⟨w.heap.size + 2, 2, none⟩ = some (.slice ox j cx) := by rw [cell_of_row _ _ _ _ _ _ HO.out.row]; rfl
          clear hown
          go_wp2_with (first | (at_builtin; refine append_own3 _ rfl _ _ 52 rfl W3.heap.size 54 i0 (.agg #[.int .i64 0, .int .i64 0, .slice none 0 0]) 3 40 Try.underlying52 hi hzz0 hzz1 hzz2 rfl (by decide) (.slice ox j cx) j ys rfl (HOWN.out.alloc _) ⟨wr.heap.size + 1, 0, none⟩ 1 1 (lcL k9 n9 (.slice o9 l9 c9)) rfl rfl HLC.out (lcL_one _ _ _ rfl) (by omega) (by unfold maxLen; omega) (by omega) (by simp; omega) ?_; intro v6 w6 hv6 hg6 hb6; obtain ⟨o6, c6, hv6e⟩ := own_formT hv6; subst hv6e; have hR6 : RowAt w6 (w.heap.size + 2) 54 (lcC kd nm (.slice ox j cx)) := HROW.out.grown hg6 (fun e => by have := HNB.out _ e.symm; have := HS3.out; omega); have HV6 := hideT' hv6; have HG6 := hideT' hg6; have HB6 := hideT' hb6; clear hv6 hg6 hb6) | (refine store_at rfl 52 _ _ rfl rfl (w.heap.size + 2) 2 (.slice o6 (j + 1) c6) rfl rfl one_sllc rfl 54 (lcC kd nm (.slice ox j cx)) hR6 (show 2 < 3 by omega) ?_; intro w7 hR7 hg7 hs7))
          have HEND : Hid (OutZ W3 w7 (w.heap.size + 2) kd nm (fun x => P x ∧ x < w.heap.size) (chgL Lm.beta (K + 1) 1 (As ++ [T])) (.slice o6 (j + 1) c6) (ys ++ lcL T.kd T.nm (.slice o9 l9 c9))) := by
            unfold Hid
            rw [HCL.out]
            refine OutZ.push HOX.out HPX.out ?_ HG6.out HB6.out hR7 hg7
            rw [chgL_len, ← HJ.out, ← HN9.out.1, ← HN9.out.2]
            exact HV6.out
          have HB7 : Hid (Below w.heap.size w w7) := ((HBX2.out.alloc (by have := HBX2.out.size; omega) _).grown HG6.out (by have := HBX2.out.size; simp; omega) (fun k e => by have := HNB.out k e; have := HS3.out; omega)).grown hg7 (by have := HBX2.out.size; have := HG6.out.size; simp at this; omega) (by intro k hk; cases hk; omega)
          clear hR7 hg7 hs7 hR6
          go_wp2
          go_roundg Bs.length
          case measure => first | omega | (rw [hgg]; simp)
          case rel => exact ⟨As ++ [T], Bs, .slice o6 (j + 1) c6, _, _, rfl, HA2, rfl, by rw [List.length_append, ← HJ.out]; go_num, HEND, HB7⟩
theorem lcAt_all : ∀ N, LcAtC N := by
  intro N
  induction N using Nat.strongRecOn with
  | _ N IH => exact lcAt_step N IH
end Go.Proofs.Ytbnagagdboeedaa
