/-
  What lcSubst of the model answers.
-/
import Derived.Test.YtbnagagdboeedaaSpecShift
namespace Go.Proofs.Ytbnagagdboeedaa
open Go.RowKit BL
set_option linter.unusedVariables false

theorem Lm.shiftOk_up (d : Int) (hd : 0 ≤ d) : ∀ (t : Lm) (f : Int), t.shiftOk d f = true
  | .var n, f => by rw [Lm.shiftOk, Bool.or_eq_true, decide_eq_true_eq, decide_eq_true_eq]; omega
  | .lam t, f => Lm.shiftOk_up d hd t (f + 1)
  | .app s t, f => by rw [Lm.shiftOk, Lm.shiftOk_up d hd s f, Lm.shiftOk_up d hd t f]; rfl
def SbC (k : Int) (s : Lm) (N : Nat) : Prop := ∀ (t : Lm), t.sz ≤ N → ∀ (m : Nat) (z zs : Value) (P : Nat → Prop) (w : World), LcIn w P t z → LcIn w P s zs → t.bd → m + t.sz ≤ 100000 →
    Calls Try.prog 129 #[.agg (lcC t.kd t.nm z), .int .i64 k, .agg (lcC s.kd s.nm zs), .int .i64 (m : Int)] w fun e w' => (∃ z', e = .returned (.agg (lcC (t.sub k s m).kd (t.sub k s m).nm z')) ∧ LcIn w' (fun x => P x ∨ w.heap.size ≤ x) (t.sub k s m) z') ∧ Below w.heap.size w w'
set_option maxHeartbeats 8000000 in
set_option maxRecDepth 100000 in
theorem lcSubst_step (k : Int) (s : Lm) (hk : 0 ≤ k ∧ k ≤ 100000) (hsb : s.bd) (hss : s.sz ≤ 100000) (N : Nat) (IH : ∀ n, n < N → SbC k s n) : SbC k s N := by
  intro t ht m z zs P w hz hzs hbd hm
  obtain ⟨hk1, hk2⟩ := hk
  have hz0 := zero_lcT.1
  obtain ⟨oz, cz, hzz⟩ := hz.form
  subst hzz
  obtain ⟨os, cs, hzzs⟩ := hzs.form
  subst hzzs
  obtain ⟨W, hWd⟩ : ∃ W, W = ((w.alloc (.cells #[.int .i64 t.kd, .int .i64 t.nm, .slice oz t.kids.length cz] 54)).alloc (.cells #[.int .i64 s.kd, .int .i64 s.nm, .slice os s.kids.length cs] 54)).alloc (.cells #[.int .i64 0, .int .i64 0, .slice none 0 0] 54) := ⟨_, rfl⟩
  have hBW : Below w.heap.size w W := by rw [hWd]; exact (((Below.refl _ _).alloc (Nat.le_refl _) _).alloc (by simp) _).alloc (by simp; omega) _
  have hWs : w.heap.size + 3 ≤ W.heap.size := by rw [hWd]; simp
  have hR0 : RowAt W w.heap.size 54 #[.int .i64 t.kd, .int .i64 t.nm, .slice oz t.kids.length cz] := by rw [hWd]; exact RowAt.old (RowAt.old (RowAt.new _ _ _) _) _
  have hR1 : RowAt W (w.heap.size + 1) 54 #[.int .i64 s.kd, .int .i64 s.nm, .slice os s.kids.length cs] := by
    rw [hWd]
    have := RowAt.new (w.alloc (.cells #[.int .i64 t.kd, .int .i64 t.nm, .slice oz t.kids.length cz] 54)) 54 #[.int .i64 s.kd, .int .i64 s.nm, .slice os s.kids.length cs]
    rw [World.size_alloc] at this
    exact RowAt.old this _
  have hR2 : RowAt W (w.heap.size + 1 + 1) 54 #[.int .i64 0, .int .i64 0, .slice none 0 0] := by
    rw [hWd]
    have := RowAt.new ((w.alloc (.cells #[.int .i64 t.kd, .int .i64 t.nm, .slice oz t.kids.length cz] 54)).alloc (.cells #[.int .i64 s.kd, .int .i64 s.nm, .slice os s.kids.length cs] 54)) 54 #[.int .i64 0, .int .i64 0, .slice none 0 0]
    rwa [World.size_alloc, World.size_alloc] at this
  have s0 : W.cell? ⟨w.heap.size + 1, 0, none⟩ = some (.int .i64 s.kd) := by rw [cell_of_row _ _ _ _ _ _ hR1]; rfl
  have s1 : W.cell? ⟨w.heap.size + 1, 1, none⟩ = some (.int .i64 s.nm) := by rw [cell_of_row _ _ _ _ _ _ hR1]; rfl
  have s2 : W.cell? ⟨w.heap.size + 1, 2, none⟩ = some (.slice os s.kids.length cs) := by rw [cell_of_row _ _ _ _ _ _ hR1]; rfl
  cases t with
  | var n =>
    obtain ⟨hn1, hn2⟩ := hbd
    have hw1 : IntKind.i64.wrap (k + (m : Int)) = k + (m : Int) := by rw [IntKind.wrap_i64]; simp only [Lm.sz] at hm; omega
    have hw2 : IntKind.i64.wrap (n - 1) = n - 1 := by rw [IntKind.wrap_i64]; omega
    change W = ((w.alloc (.cells #[.int .i64 1, .int .i64 n, .slice oz 0 cz] 54)).alloc (.cells #[.int .i64 s.kd, .int .i64 s.nm, .slice os s.kids.length cs] 54)).alloc (.cells #[.int .i64 0, .int .i64 0, .slice none 0 0] 54) at hWd
    have HF := hideT' (And.intro hBW (And.intro hR2 hWs))
    have HZS := hideT' hzs
    have hm' : m ≤ 100000 := by simp only [Lm.sz] at hm; omega
    obtain ⟨sk, hsk⟩ : ∃ sk, sk = s.kd := ⟨_, rfl⟩
    obtain ⟨sn, hsn⟩ : ∃ sn, sn = s.nm := ⟨_, rfl⟩
    obtain ⟨sl, hsl⟩ : ∃ sl, sl = s.kids.length := ⟨_, rfl⟩
    rw [← hsl] at HZS
    rw [← hsk, ← hsn, ← hsl] at hWd
    change Calls Try.prog 129 #[.agg #[.int .i64 1, .int .i64 n, .slice oz 0 cz], .int .i64 k, .agg #[.int .i64 s.kd, .int .i64 s.nm, .slice os s.kids.length cs], .int .i64 (m : Int)] w _
    rw [← hsk, ← hsn, ← hsl]
    clear IH hR0 hR1 hR2 hBW hz hzs hWs hm ht s0 s1 s2
    by_cases h1 : n = k + (m : Int)
    · have HE : Hid ((Lm.var n).sub k s m = s.shift (m : Int) 0) := by unfold Hid; rw [Lm.sub, if_neg (show ¬ n < k + (m : Int) by omega), if_pos h1]
      have hsz2 : W.heap.size = W.heap.size := rfl
      have HC := hideT' (lcShift_all (m : Int) ⟨by omega, by omega⟩ s.sz s (Nat.le_refl _) 0 (.slice os sl cs) (fun x => P x ∧ x < w.heap.size) W (LcIn.keep (w := w) HF.out.1.size (fun x _ hl => HF.out.1.block x hl) (fun x h hl => ⟨h, hl⟩) HZS.out) hsb (by omega) (by omega))
      have hb1 : (n == k + (m : Int)) = true := by simp [h1]
      clear h1
      unfold lcC at HC
      rw [← hsk, ← hsn] at HC
      clear hsz2 hsk hsn hsl
      go_enter Try.func129, Try.ntmps129
      go_wp2_with fail
      rw [← hWd]
      refine HC.out.mono ?_
      rintro e w5 ⟨hout, hB5⟩
      rcases hout with ⟨hok, z5, rfl, hz5⟩ | ⟨hno, _⟩
      · obtain ⟨o5, c5, hzz5⟩ := hz5.form
        subst hzz5
        have hRz : RowAt w5 (w.heap.size + 1 + 1) 54 #[.int .i64 0, .int .i64 0, .slice none 0 0] := HF.out.2.1.below hB5 (by have := HF.out.2.2; omega)
        have HRZ := hideT' hRz
        have HZ5 := hideT' (And.intro hz5 hB5)
        obtain ⟨k5, hk5⟩ : ∃ k5, k5 = (s.shift (m : Int) 0).kd := ⟨_, rfl⟩
        obtain ⟨n5, hn5⟩ : ∃ n5, n5 = (s.shift (m : Int) 0).nm := ⟨_, rfl⟩
        obtain ⟨l5, hl5⟩ : ∃ l5, l5 = (s.shift (m : Int) 0).kids.length := ⟨_, rfl⟩
        rw [← hl5] at HZ5
        rw [← hk5, ← hn5, ← hl5]
        have HKN := hideT' (And.intro hk5 hn5)
        clear hok hz5 hB5 hRz hk5 hn5 hl5 hWd
        unfold lcC
        go_wp2_with (refine store_3 rfl 54 _ _ rfl rfl zero_lcT.2 (w.heap.size + 1 + 1) (lcC k5 n5 (.slice o5 l5 c5)) rfl (lcC_one _ _ _ rfl) rfl rfl _ rfl (RowAt.old HRZ.out _) ?_; intro w9 hR9 hg9 hs9)
        have hs9' : w9.heap.size = w5.heap.size + 1 := by rw [hs9]; simp
        have hs5 := HZ5.out.2.size
        have hWW := HF.out.2.2
        have hBF := HF.out.1.size
        refine bodyPost_ret (v := .agg (lcC k5 n5 (.slice o5 l5 c5))) (results_cell_row Try.results129 _ _ (w.heap.size + 1 + 1) 54 (lcC k5 n5 (.slice o5 l5 c5)) (0, 0) _ rfl hR9 Try.underlying54 rfl zero_lcT.2) rfl ⟨⟨_, by rw [HE.out, ← HKN.out.1, ← HKN.out.2], ?_⟩, ((HF.out.1.trans (HZ5.out.2.mono HF.out.1.size)).alloc (by omega) _).grown hg9 (by simp; omega) (by intro k hk; cases hk; omega)⟩
        rw [HE.out]
        refine LcIn.keep (w := w5) (by omega) (fun x hx hl => ?_) (fun x hx _ => ?_) HZ5.out.1
        · rw [hg9.block x (by simp; omega) (by intro e; injection e with e; rcases hx with hx | hx <;> omega), Below.heap_alloc _ _ _ hl]
        · rcases hx with hx | hx
          · exact .inl hx.1
          · exact .inr (by omega)
      · exact absurd hno (by rw [Lm.shiftOk_up _ (by omega)]; simp)
    · have hb1 : (n == k + (m : Int)) = false := by simp [h1]
      by_cases h2 : k + (m : Int) < n
      · have HE : Hid ((Lm.var n).sub k s m = .var (n - 1)) := by unfold Hid; rw [Lm.sub, if_neg (show ¬ n < k + (m : Int) by omega), if_neg h1]
        clear HZS hsk hsn hsl
        go_enter Try.func129, Try.ntmps129
        go_wp2_with fail
        rw [← hWd]
        refine (lcVar_any (n - 1) _).mono ?_
        rintro e w5 ⟨rfl, hB5⟩
        have HRZ : Hid (RowAt w5 (w.heap.size + 1 + 1) 54 #[.int .i64 0, .int .i64 0, .slice none 0 0]) := HF.out.2.1.below hB5 (by have := HF.out.2.2; omega)
        have HB5 := hideT' hB5
        clear hB5 hWd
        go_wp2_with (refine store_3 rfl 54 _ _ rfl rfl zero_lcT.2 (w.heap.size + 1 + 1) (lcC 1 (n - 1) (.slice none 0 0)) rfl (lcC_one _ _ _ rfl) rfl rfl _ rfl HRZ.out ?_; intro w9 hR9 hg9 hs9)
        refine bodyPost_ret (v := .agg (lcC 1 (n - 1) (.slice none 0 0))) (results_cell_row Try.results129 _ _ (w.heap.size + 1 + 1) 54 (lcC 1 (n - 1) (.slice none 0 0)) (0, 0) _ rfl hR9 Try.underlying54 rfl zero_lcT.2) rfl ⟨⟨_, by rw [HE.out]; rfl, by rw [HE.out]; exact ⟨none, 0, rfl⟩⟩, (HF.out.1.trans (HB5.out.mono HF.out.1.size)).grown hg9 (by have := HF.out.1.size; have := HB5.out.size; omega) (by intro k hk; cases hk; omega)⟩
      · have HE : Hid ((Lm.var n).sub k s m = .var n) := by unfold Hid; rw [Lm.sub, if_pos (show n < k + (m : Int) by omega)]
        clear HZS hsk hsn hsl
        obtain ⟨W9, hW9⟩ : ∃ W9, W9 = ((w.alloc (.cells #[.int .i64 1, .int .i64 n, .slice oz 0 cz] 54)).alloc (.cells #[.int .i64 sk, .int .i64 sn, .slice os sl cs] 54)).alloc (.cells #[.int .i64 1, .int .i64 n, .slice oz 0 cz] 54) := ⟨_, rfl⟩
        have HR9 : Hid (RowAt W9 (w.heap.size + 1 + 1) 54 (lcC 1 n (.slice oz 0 cz)) ∧ Below w.heap.size w W9) := by
          refine ⟨?_, by rw [hW9]; exact (((Below.refl _ _).alloc (Nat.le_refl _) _).alloc (by simp) _).alloc (by simp; omega) _⟩
          rw [hW9]
          have := RowAt.new ((w.alloc (.cells #[.int .i64 1, .int .i64 n, .slice oz 0 cz] 54)).alloc (.cells #[.int .i64 sk, .int .i64 sn, .slice os sl cs] 54)) 54 (lcC 1 n (.slice oz 0 cz))
          rwa [World.size_alloc, World.size_alloc] at this
        go_enter Try.func129, Try.ntmps129
        go_wp2
        rw [← hW9]
        exact bodyPost_ret (v := .agg (lcC 1 n (.slice oz 0 cz))) (results_cell_row Try.results129 _ _ (w.heap.size + 1 + 1) 54 (lcC 1 n (.slice oz 0 cz)) (0, 0) _ rfl HR9.out.1 Try.underlying54 rfl zero_lcT.2) rfl ⟨⟨_, by rw [HE.out]; rfl, by rw [HE.out]; exact ⟨oz, cz, rfl⟩⟩, HR9.out.2⟩
  | lam a =>
    obtain ⟨g, c, z1, e1, hg, ⟨a0, a1, a2⟩, hza⟩ := hz
    simp only [Lm.kids, List.length_cons, List.length_nil, Nat.zero_add] at e1 hR0 hWd
    injection e1 with e1 e2 e3
    subst e1
    clear e2 e3
    obtain ⟨oa, ca, hzza⟩ := hza.form
    subst hzza
    simp only [Lm.sz] at hm ht
    have hgl := hg.1
    have hgW : g < W.heap.size := by omega
    have a0 : W.cell? ⟨g, 0, none⟩ = some (.int .i64 a.kd) := by rw [hBW.cell (p := ⟨g, 0, none⟩) hgl]; exact a0
    have a1 : W.cell? ⟨g, 1, none⟩ = some (.int .i64 a.nm) := by rw [hBW.cell (p := ⟨g, 1, none⟩) hgl]; exact a1
    have a2 : W.cell? ⟨g, 2, none⟩ = some (.slice oa a.kids.length ca) := by rw [hBW.cell (p := ⟨g, 2, none⟩) hgl]; exact a2
    have t2 : W.cell? ⟨w.heap.size, 2, none⟩ = some (.slice (some ⟨g, 0, none⟩) 1 cz) := by rw [cell_of_row _ _ _ _ _ _ hR0]; rfl
    have HC1 : Hid (∀ w', Below W.heap.size W w' → Calls Try.prog 129 #[.agg (lcC a.kd a.nm (.slice oa a.kids.length ca)), .int .i64 k, .agg (lcC s.kd s.nm (.slice os s.kids.length cs)), .int .i64 ((m : Int) + 1)] w' fun e w'' => (∃ z', e = .returned (.agg (lcC (a.sub k s (m + 1)).kd (a.sub k s (m + 1)).nm z')) ∧ LcIn w'' (fun x => (P x ∧ x < w.heap.size) ∨ w'.heap.size ≤ x) (a.sub k s (m + 1)) z') ∧ Below w'.heap.size w' w'') := by
      intro w' hB'
      have hBB := hBW.trans (hB'.mono hBW.size)
      have := IH a.sz (by omega) a (Nat.le_refl _) (m + 1) (.slice oa a.kids.length ca) (.slice os s.kids.length cs) (fun x => P x ∧ x < w.heap.size) w' (LcIn.keep (w := w) hBB.size (fun x _ hl => hBB.block x hl) (fun x h hl => ⟨h, hl⟩) hza) (LcIn.keep (w := w) hBB.size (fun x _ hl => hBB.block x hl) (fun x h hl => ⟨h, hl⟩) hzs) hbd (by omega)
      rw [show ((m + 1 : Nat) : Int) = (m : Int) + 1 by omega] at this
      exact this
    have HBW := hideT' hBW
    have hDW : Below W.heap.size W W.drew := (Below.refl _ _).drew
    have hw3 : IntKind.i64.wrap ((m : Int) + 1) = (m : Int) + 1 := by rw [IntKind.wrap_i64]; omega
    clear IH hza hzs hbd hBW ht
    unfold lcC
    show Calls Try.prog 129 #[.agg #[.int .i64 2, .int .i64 0, .slice (some ⟨g, 0, none⟩) 1 cz], .int .i64 k, .agg #[.int .i64 s.kd, .int .i64 s.nm, .slice os s.kids.length cs], .int .i64 (m : Int)] w _
    go_enter Try.func129, Try.ntmps129
    go_wp2_with fail
    rw [show ((w.alloc (.cells #[.int .i64 2, .int .i64 0, .slice (some ⟨g, 0, none⟩) 1 cz] 54)).alloc (.cells #[.int .i64 s.kd, .int .i64 s.nm, .slice os s.kids.length cs] 54)).alloc (.cells #[.int .i64 0, .int .i64 0, .slice none 0 0] 54) = W from hWd.symm]
    clear hWd
    refine held_begin (fun w' => ∀ x, x < w.heap.size + 2 → w'.heap[x]? = W.heap[x]?) (by kernel_rfl) ?_
    have hS : ∀ x, x < w.heap.size + 2 → W.drew.heap[x]? = W.heap[x]? := fun _ _ => rfl
    refine held_valS 0 (some 43) rfl rfl (by kernel_rfl) (by kernel_rfl) (by kernel_rfl) noPanic_put rfl (.pointer (some ⟨w.heap.size, 2, none⟩)) (fun _ _ => by go_simp) hS ?_
    simp only [Act.put, List.setIfInBounds_toArray, List.set_cons_zero, List.set_cons_succ]
    refine held_valS 1 (some 44) rfl rfl (by kernel_rfl) (by kernel_rfl) (by kernel_rfl) noPanic_put rfl (.slice (some ⟨g, 0, none⟩) 1 cz) (fun w' h => by have q := ((World.cell?_of_block (w := W) (a := ⟨w.heap.size, 2, none⟩) (h (w.heap.size) (by omega))).trans t2); go_simp) hS ?_
    simp only [Act.put, List.setIfInBounds_toArray, List.set_cons_zero, List.set_cons_succ]
    refine held_valS 2 (some 45) rfl rfl (by kernel_rfl) (by kernel_rfl) (by kernel_rfl) noPanic_put rfl (.pointer (some ⟨g, 0, none⟩)) (fun _ _ => by go_simp) hS ?_
    simp only [Act.put, List.setIfInBounds_toArray, List.set_cons_zero, List.set_cons_succ]
    refine held_valS 3 (some 46) rfl rfl (by kernel_rfl) (by kernel_rfl) (by kernel_rfl) noPanic_put rfl (.agg (lcC a.kd a.nm (.slice oa a.kids.length ca))) (fun w' h => by unfold lcC; have q0 := ((World.cell?_of_block (w := W) (a := ⟨g, 0, none⟩) (h (g) (by omega))).trans a0); have q1 := ((World.cell?_of_block (w := W) (a := ⟨g, 1, none⟩) (h (g) (by omega))).trans a1); have q2 := ((World.cell?_of_block (w := W) (a := ⟨g, 2, none⟩) (h (g) (by omega))).trans a2); go_simp) hS ?_
    simp only [Act.put, List.setIfInBounds_toArray, List.set_cons_zero, List.set_cons_succ]
    refine held_valS 4 (some 47) rfl rfl (by kernel_rfl) (by kernel_rfl) (by kernel_rfl) noPanic_put rfl (.int .i64 k) (fun _ _ => by go_simp) hS ?_
    simp only [Act.put, List.setIfInBounds_toArray, List.set_cons_zero, List.set_cons_succ]
    refine held_valS 5 (some 48) rfl rfl (by kernel_rfl) (by kernel_rfl) (by kernel_rfl) noPanic_put rfl (.agg (lcC s.kd s.nm (.slice os s.kids.length cs))) (fun w' h => by unfold lcC; have q0 := ((World.cell?_of_block (w := W) (a := ⟨w.heap.size + 1, 0, none⟩) (h (w.heap.size + 1) (by omega))).trans s0); have q1 := ((World.cell?_of_block (w := W) (a := ⟨w.heap.size + 1, 1, none⟩) (h (w.heap.size + 1) (by omega))).trans s1); have q2 := ((World.cell?_of_block (w := W) (a := ⟨w.heap.size + 1, 2, none⟩) (h (w.heap.size + 1) (by omega))).trans s2); go_simp) hS ?_
    simp only [Act.put, List.setIfInBounds_toArray, List.set_cons_zero, List.set_cons_succ]
    refine held_valS 6 (some 49) rfl rfl (by kernel_rfl) (by kernel_rfl) (by kernel_rfl) noPanic_put rfl (.int .i64 (m : Int)) (fun _ _ => by go_simp) hS ?_
    simp only [Act.put, List.setIfInBounds_toArray, List.set_cons_zero, List.set_cons_succ]
    refine held_valS 7 (some 50) rfl rfl (by kernel_rfl) (by kernel_rfl) (by kernel_rfl) noPanic_put rfl (.int .i64 ((m : Int) + 1)) (fun _ _ => by go_simp) hS ?_
    simp only [Act.put, List.setIfInBounds_toArray, List.set_cons_zero, List.set_cons_succ]
    refine held_call 8 (some 51) (by kernel_rfl) rfl rfl rfl 129 #[.agg (lcC a.kd a.nm (.slice oa a.kids.length ca)), .int .i64 k, .agg (lcC s.kd s.nm (.slice os s.kids.length cs)), .int .i64 ((m : Int) + 1)] (by go_simp) _ (HC1.out W.drew hDW) ?_
    rintro e w5 ⟨⟨z5, rfl, hz5⟩, hw5⟩
    have hw5 : Below W.heap.size W w5 := ⟨hw5.os, hw5.tape, hw5.output, hw5.size, hw5.block⟩
    have hsz5 := hw5.size
    have hS5 : ∀ x, x < w.heap.size + 2 → w5.heap[x]? = W.heap[x]? := fun x hx => hw5.block x (by omega)
    have hz5 : LcIn w5 (fun x => (P x ∧ x < w.heap.size) ∨ W.heap.size ≤ x) _ _ := hz5
    refine ⟨_, rfl, hS5, ?_⟩
    simp only [Act.put, List.setIfInBounds_toArray, List.set_cons_zero, List.set_cons_succ]
    obtain ⟨o5, c5, hzz5⟩ := hz5.form
    subst hzz5
    refine held_call 9 (some 52) (by kernel_rfl) rfl rfl rfl 82 #[.agg (lcC (a.sub k s (m + 1)).kd (a.sub k s (m + 1)).nm (.slice o5 (a.sub k s (m + 1)).kids.length c5))] (by go_simp) _ (lcLam_any (a.sub k s (m + 1)) _ _ w5 hz5) ?_
    rintro e w6 ⟨⟨z6, rfl, hz6⟩, hw6⟩
    have hsz6 := hw6.size
    have hSl : ∀ x, x < w.heap.size + 2 → w6.heap[x]? = W.heap[x]? := fun x hx => by rw [hw6.block x (by omega)]; exact hS5 x hx
    refine ⟨_, rfl, hSl, ?_⟩
    simp only [Act.put, List.setIfInBounds_toArray, List.set_cons_zero, List.set_cons_succ]
    obtain ⟨o6, c6, hzz6⟩ := hz6.form
    subst hzz6
    have hRz : RowAt w6 (w.heap.size + 1 + 1) 54 #[.int .i64 0, .int .i64 0, .slice none 0 0] := (hR2.below hw5 (by omega)).below hw6 (by omega)
    refine held_one 10 (by kernel_rfl) rfl rfl ?_
    intro K hK
    refine store_3_wp 54 (.tmp 8) (.tmp 52) rfl rfl zero_lcT.2 (w.heap.size + 1 + 1) (lcC 2 0 (.slice o6 (Lm.lam (a.sub k s (m + 1))).kids.length c6)) rfl (lcC_one _ _ _ rfl) rfl rfl #[.int .i64 0, .int .i64 0, .slice none 0 0] rfl hRz ?_
    intro w9 hR9 hg9 hs9
    have hS9 : ∀ x, x < w.heap.size + 2 → w9.heap[x]? = W.heap[x]? := fun x hx => by rw [hg9.block x (by omega) (by intro e; injection e; omega)]; exact hSl x hx
    refine hK.out _ _ hS9 ?_
    refine wpAnyH_done (by kernel_rfl) ?_ _
    refine NoPanic.normal ?_
    have HF : Hid (LcIn w9 (fun x => P x ∨ w.heap.size ≤ x) (.lam (a.sub k s (m + 1))) (.slice o6 (Lm.lam (a.sub k s (m + 1))).kids.length c6) ∧ Below w.heap.size w w9 ∧ RowAt w9 (w.heap.size + 1 + 1) 54 (lcC 2 0 (.slice o6 (Lm.lam (a.sub k s (m + 1))).kids.length c6))) := by
      refine ⟨LcIn.keep (w := w6) (by omega) (fun x hx hl => hg9.block x hl (by intro e; injection e with e; rcases hx with (hx | hx) | hx <;> omega)) (fun x hx _ => by rcases hx with (hx | hx) | hx; exact .inl hx.1; exact .inr (by omega); exact .inr (by omega)) hz6, ((HBW.out.trans (hw5.mono HBW.out.size)).trans (hw6.mono (by omega))).grown hg9 (by omega) (by intro k hk; cases hk; omega), hR9⟩
    clear hK hS hS5 hSl hS9 hz5 hz6 hw5 hw6 hg9 hR9 hRz
    go_wp2
    exact bodyPost_ret (v := .agg (lcC 2 0 (.slice o6 (Lm.lam (a.sub k s (m + 1))).kids.length c6))) (results_cell_row Try.results129 _ _ (w.heap.size + 1 + 1) 54 (lcC 2 0 (.slice o6 (Lm.lam (a.sub k s (m + 1))).kids.length c6)) (0, 0) _ rfl HF.out.2.2 Try.underlying54 rfl zero_lcT.2) rfl ⟨⟨_, rfl, HF.out.1⟩, HF.out.2.1⟩
  | app a b =>
    obtain ⟨g, c, z1, z2, e1, hg, ⟨a0, a1, a2⟩, ⟨b0, b1, b2⟩, hza, hzb⟩ := hz
    simp only [Lm.kids, List.length_cons, List.length_nil, Nat.zero_add, Nat.reduceAdd] at e1 hR0 hWd
    injection e1 with e1 e2 e3
    subst e1
    clear e2 e3
    obtain ⟨oa, ca, hzza⟩ := hza.form
    subst hzza
    obtain ⟨ob, cb, hzzb⟩ := hzb.form
    subst hzzb
    simp only [Lm.sz] at hm ht
    have hgl := hg.1
    have hgW : g < W.heap.size := by omega
    have a0 : W.cell? ⟨g, 0, none⟩ = some (.int .i64 a.kd) := by rw [hBW.cell (p := ⟨g, 0, none⟩) hgl]; exact a0
    have a1 : W.cell? ⟨g, 1, none⟩ = some (.int .i64 a.nm) := by rw [hBW.cell (p := ⟨g, 1, none⟩) hgl]; exact a1
    have a2 : W.cell? ⟨g, 2, none⟩ = some (.slice oa a.kids.length ca) := by rw [hBW.cell (p := ⟨g, 2, none⟩) hgl]; exact a2
    have b0 : W.cell? ⟨g, 3, none⟩ = some (.int .i64 b.kd) := by rw [hBW.cell (p := ⟨g, 3, none⟩) hgl]; exact b0
    have b1 : W.cell? ⟨g, 4, none⟩ = some (.int .i64 b.nm) := by rw [hBW.cell (p := ⟨g, 4, none⟩) hgl]; exact b1
    have b2 : W.cell? ⟨g, 5, none⟩ = some (.slice ob b.kids.length cb) := by rw [hBW.cell (p := ⟨g, 5, none⟩) hgl]; exact b2
    have t2 : W.cell? ⟨w.heap.size, 2, none⟩ = some (.slice (some ⟨g, 0, none⟩) 2 cz) := by rw [cell_of_row _ _ _ _ _ _ hR0]; rfl
    have HCC : Hid (∀ t', t'.sz < N → ∀ o' c', LcIn w P t' (.slice o' t'.kids.length c') → t'.bd → m + t'.sz ≤ 100000 → ∀ w', Below W.heap.size W w' → Calls Try.prog 129 #[.agg (lcC t'.kd t'.nm (.slice o' t'.kids.length c')), .int .i64 k, .agg (lcC s.kd s.nm (.slice os s.kids.length cs)), .int .i64 (m : Int)] w' fun e w'' => (∃ z', e = .returned (.agg (lcC (t'.sub k s m).kd (t'.sub k s m).nm z')) ∧ LcIn w'' (fun x => (P x ∧ x < w.heap.size) ∨ w'.heap.size ≤ x) (t'.sub k s m) z') ∧ Below w'.heap.size w' w'') := by
      intro t' ht' o' c' hz' hbd' hm' w' hB'
      have hBB := hBW.trans (hB'.mono hBW.size)
      exact IH t'.sz ht' t' (Nat.le_refl _) m (.slice o' t'.kids.length c') (.slice os s.kids.length cs) (fun x => P x ∧ x < w.heap.size) w' (LcIn.keep (w := w) hBB.size (fun x _ hl => hBB.block x hl) (fun x h hl => ⟨h, hl⟩) hz') (LcIn.keep (w := w) hBB.size (fun x _ hl => hBB.block x hl) (fun x h hl => ⟨h, hl⟩) hzs) hbd' hm'
    have HC1 := hideT' (HCC.out a (by omega) oa ca hza hbd.1 (by omega))
    have HC2 := hideT' (HCC.out b (by omega) ob cb hzb hbd.2 (by omega))
    have HBW := hideT' hBW
    have hDW : Below W.heap.size W W.drew := (Below.refl _ _).drew
    clear IH hza hzb hzs hbd hBW ht HCC
    unfold lcC
    show Calls Try.prog 129 #[.agg #[.int .i64 3, .int .i64 0, .slice (some ⟨g, 0, none⟩) 2 cz], .int .i64 k, .agg #[.int .i64 s.kd, .int .i64 s.nm, .slice os s.kids.length cs], .int .i64 (m : Int)] w _
    go_enter Try.func129, Try.ntmps129
    go_wp2_with fail
    rw [show ((w.alloc (.cells #[.int .i64 3, .int .i64 0, .slice (some ⟨g, 0, none⟩) 2 cz] 54)).alloc (.cells #[.int .i64 s.kd, .int .i64 s.nm, .slice os s.kids.length cs] 54)).alloc (.cells #[.int .i64 0, .int .i64 0, .slice none 0 0] 54) = W from hWd.symm]
    clear hWd
    refine held_begin (fun w' => ∀ x, x < w.heap.size + 2 → w'.heap[x]? = W.heap[x]?) (by kernel_rfl) ?_
    have hS : ∀ x, x < w.heap.size + 2 → W.drew.heap[x]? = W.heap[x]? := fun _ _ => rfl
    refine held_valS 0 (some 53) rfl rfl (by kernel_rfl) (by kernel_rfl) (by kernel_rfl) noPanic_put rfl (.pointer (some ⟨w.heap.size, 2, none⟩)) (fun _ _ => by go_simp) hS ?_
    simp only [Act.put, List.setIfInBounds_toArray, List.set_cons_zero, List.set_cons_succ]
    refine held_valS 1 (some 54) rfl rfl (by kernel_rfl) (by kernel_rfl) (by kernel_rfl) noPanic_put rfl (.slice (some ⟨g, 0, none⟩) 2 cz) (fun w' h => by have q := ((World.cell?_of_block (w := W) (a := ⟨w.heap.size, 2, none⟩) (h (w.heap.size) (by omega))).trans t2); go_simp) hS ?_
    simp only [Act.put, List.setIfInBounds_toArray, List.set_cons_zero, List.set_cons_succ]
    refine held_valS 2 (some 55) rfl rfl (by kernel_rfl) (by kernel_rfl) (by kernel_rfl) noPanic_put rfl (.pointer (some ⟨g, 0, none⟩)) (fun _ _ => by go_simp) hS ?_
    simp only [Act.put, List.setIfInBounds_toArray, List.set_cons_zero, List.set_cons_succ]
    refine held_valS 3 (some 56) rfl rfl (by kernel_rfl) (by kernel_rfl) (by kernel_rfl) noPanic_put rfl (.agg (lcC a.kd a.nm (.slice oa a.kids.length ca))) (fun w' h => by unfold lcC; have q0 := ((World.cell?_of_block (w := W) (a := ⟨g, 0, none⟩) (h (g) (by omega))).trans a0); have q1 := ((World.cell?_of_block (w := W) (a := ⟨g, 1, none⟩) (h (g) (by omega))).trans a1); have q2 := ((World.cell?_of_block (w := W) (a := ⟨g, 2, none⟩) (h (g) (by omega))).trans a2); go_simp) hS ?_
    simp only [Act.put, List.setIfInBounds_toArray, List.set_cons_zero, List.set_cons_succ]
    refine held_valS 4 (some 57) rfl rfl (by kernel_rfl) (by kernel_rfl) (by kernel_rfl) noPanic_put rfl (.int .i64 k) (fun _ _ => by go_simp) hS ?_
    simp only [Act.put, List.setIfInBounds_toArray, List.set_cons_zero, List.set_cons_succ]
    refine held_valS 5 (some 58) rfl rfl (by kernel_rfl) (by kernel_rfl) (by kernel_rfl) noPanic_put rfl (.agg (lcC s.kd s.nm (.slice os s.kids.length cs))) (fun w' h => by unfold lcC; have q0 := ((World.cell?_of_block (w := W) (a := ⟨w.heap.size + 1, 0, none⟩) (h (w.heap.size + 1) (by omega))).trans s0); have q1 := ((World.cell?_of_block (w := W) (a := ⟨w.heap.size + 1, 1, none⟩) (h (w.heap.size + 1) (by omega))).trans s1); have q2 := ((World.cell?_of_block (w := W) (a := ⟨w.heap.size + 1, 2, none⟩) (h (w.heap.size + 1) (by omega))).trans s2); go_simp) hS ?_
    simp only [Act.put, List.setIfInBounds_toArray, List.set_cons_zero, List.set_cons_succ]
    refine held_valS 6 (some 59) rfl rfl (by kernel_rfl) (by kernel_rfl) (by kernel_rfl) noPanic_put rfl (.int .i64 (m : Int)) (fun _ _ => by go_simp) hS ?_
    simp only [Act.put, List.setIfInBounds_toArray, List.set_cons_zero, List.set_cons_succ]
    refine held_valS 8 (some 61) rfl rfl (by kernel_rfl) (by kernel_rfl) (by kernel_rfl) noPanic_put rfl (.pointer (some ⟨w.heap.size, 2, none⟩)) (fun _ _ => by go_simp) hS ?_
    simp only [Act.put, List.setIfInBounds_toArray, List.set_cons_zero, List.set_cons_succ]
    refine held_valS 9 (some 62) rfl rfl (by kernel_rfl) (by kernel_rfl) (by kernel_rfl) noPanic_put rfl (.slice (some ⟨g, 0, none⟩) 2 cz) (fun w' h => by have q := ((World.cell?_of_block (w := W) (a := ⟨w.heap.size, 2, none⟩) (h (w.heap.size) (by omega))).trans t2); go_simp) hS ?_
    simp only [Act.put, List.setIfInBounds_toArray, List.set_cons_zero, List.set_cons_succ]
    refine held_valS 10 (some 63) rfl rfl (by kernel_rfl) (by kernel_rfl) (by kernel_rfl) noPanic_put rfl (.pointer (some ⟨g, 3, none⟩)) (fun _ _ => by go_simp) hS ?_
    simp only [Act.put, List.setIfInBounds_toArray, List.set_cons_zero, List.set_cons_succ]
    refine held_valS 11 (some 64) rfl rfl (by kernel_rfl) (by kernel_rfl) (by kernel_rfl) noPanic_put rfl (.agg (lcC b.kd b.nm (.slice ob b.kids.length cb))) (fun w' h => by unfold lcC; have q0 := ((World.cell?_of_block (w := W) (a := ⟨g, 3, none⟩) (h (g) (by omega))).trans b0); have q1 := ((World.cell?_of_block (w := W) (a := ⟨g, 4, none⟩) (h (g) (by omega))).trans b1); have q2 := ((World.cell?_of_block (w := W) (a := ⟨g, 5, none⟩) (h (g) (by omega))).trans b2); go_simp) hS ?_
    simp only [Act.put, List.setIfInBounds_toArray, List.set_cons_zero, List.set_cons_succ]
    refine held_valS 12 (some 65) rfl rfl (by kernel_rfl) (by kernel_rfl) (by kernel_rfl) noPanic_put rfl (.int .i64 k) (fun _ _ => by go_simp) hS ?_
    simp only [Act.put, List.setIfInBounds_toArray, List.set_cons_zero, List.set_cons_succ]
    refine held_valS 13 (some 66) rfl rfl (by kernel_rfl) (by kernel_rfl) (by kernel_rfl) noPanic_put rfl (.agg (lcC s.kd s.nm (.slice os s.kids.length cs))) (fun w' h => by unfold lcC; have q0 := ((World.cell?_of_block (w := W) (a := ⟨w.heap.size + 1, 0, none⟩) (h (w.heap.size + 1) (by omega))).trans s0); have q1 := ((World.cell?_of_block (w := W) (a := ⟨w.heap.size + 1, 1, none⟩) (h (w.heap.size + 1) (by omega))).trans s1); have q2 := ((World.cell?_of_block (w := W) (a := ⟨w.heap.size + 1, 2, none⟩) (h (w.heap.size + 1) (by omega))).trans s2); go_simp) hS ?_
    simp only [Act.put, List.setIfInBounds_toArray, List.set_cons_zero, List.set_cons_succ]
    refine held_valS 14 (some 67) rfl rfl (by kernel_rfl) (by kernel_rfl) (by kernel_rfl) noPanic_put rfl (.int .i64 (m : Int)) (fun _ _ => by go_simp) hS ?_
    simp only [Act.put, List.setIfInBounds_toArray, List.set_cons_zero, List.set_cons_succ]
    refine held_call 7 (some 60) (by kernel_rfl) rfl rfl rfl 129 #[.agg (lcC a.kd a.nm (.slice oa a.kids.length ca)), .int .i64 k, .agg (lcC s.kd s.nm (.slice os s.kids.length cs)), .int .i64 (m : Int)] (by go_simp) _ (HC1.out W.drew hDW) ?_
    rintro e w5 ⟨⟨z5, rfl, hz5⟩, hw5⟩
    have hw5 : Below W.heap.size W w5 := ⟨hw5.os, hw5.tape, hw5.output, hw5.size, hw5.block⟩
    have hsz5 := hw5.size
    have hS5 : ∀ x, x < w.heap.size + 2 → w5.heap[x]? = W.heap[x]? := fun x hx => hw5.block x (by omega)
    have hz5 : LcIn w5 (fun x => (P x ∧ x < w.heap.size) ∨ W.heap.size ≤ x) _ _ := hz5
    refine ⟨_, rfl, hS5, ?_⟩
    simp only [Act.put, List.setIfInBounds_toArray, List.set_cons_zero, List.set_cons_succ]
    obtain ⟨o5, c5, hzz5⟩ := hz5.form
    subst hzz5
    refine held_call 15 (some 68) (by kernel_rfl) rfl rfl rfl 129 #[.agg (lcC b.kd b.nm (.slice ob b.kids.length cb)), .int .i64 k, .agg (lcC s.kd s.nm (.slice os s.kids.length cs)), .int .i64 (m : Int)] (by go_simp) _ (HC2.out w5 hw5) ?_
    rintro e w7 ⟨⟨z7, rfl, hz7⟩, hw7⟩
    have hsz7 := hw7.size
    have hS7 : ∀ x, x < w.heap.size + 2 → w7.heap[x]? = W.heap[x]? := fun x hx => by rw [hw7.block x (by omega)]; exact hS5 x hx
    refine ⟨_, rfl, hS7, ?_⟩
    simp only [Act.put, List.setIfInBounds_toArray, List.set_cons_zero, List.set_cons_succ]
    obtain ⟨o7, c7, hzz7⟩ := hz7.form
    subst hzz7
    have hz5' : LcIn w7 (fun x => (P x ∧ x < w.heap.size) ∨ W.heap.size ≤ x) (a.sub k s m) (.slice o5 (a.sub k s m).kids.length c5) := LcIn.below hw7 hz5
    have hz7' : LcIn w7 (fun x => (P x ∧ x < w.heap.size) ∨ W.heap.size ≤ x) (b.sub k s m) (.slice o7 (b.sub k s m).kids.length c7) := LcIn.mono (fun x hx _ => hx.imp id (fun h => by omega)) hz7
    refine held_call 16 (some 69) (by kernel_rfl) rfl rfl rfl 84 #[.agg (lcC (a.sub k s m).kd (a.sub k s m).nm (.slice o5 (a.sub k s m).kids.length c5)), .agg (lcC (b.sub k s m).kd (b.sub k s m).nm (.slice o7 (b.sub k s m).kids.length c7))] (by go_simp) _ (lcApp_any (a.sub k s m) (b.sub k s m) _ _ _ w7 hz5' hz7') ?_
    rintro e w6 ⟨⟨z6, rfl, hz6⟩, hw6⟩
    have hsz6 := hw6.size
    have hSl : ∀ x, x < w.heap.size + 2 → w6.heap[x]? = W.heap[x]? := fun x hx => by rw [hw6.block x (by omega)]; exact hS7 x hx
    refine ⟨_, rfl, hSl, ?_⟩
    simp only [Act.put, List.setIfInBounds_toArray, List.set_cons_zero, List.set_cons_succ]
    obtain ⟨o6, c6, hzz6⟩ := hz6.form
    subst hzz6
    have hRz : RowAt w6 (w.heap.size + 1 + 1) 54 #[.int .i64 0, .int .i64 0, .slice none 0 0] := ((hR2.below hw5 (by omega)).below hw7 (by omega)).below hw6 (by omega)
    refine held_one 17 (by kernel_rfl) rfl rfl ?_
    intro K hK
    refine store_3_wp 54 (.tmp 8) (.tmp 69) rfl rfl zero_lcT.2 (w.heap.size + 1 + 1) (lcC 3 0 (.slice o6 (Lm.app (a.sub k s m) (b.sub k s m)).kids.length c6)) rfl (lcC_one _ _ _ rfl) rfl rfl #[.int .i64 0, .int .i64 0, .slice none 0 0] rfl hRz ?_
    intro w9 hR9 hg9 hs9
    have hS9 : ∀ x, x < w.heap.size + 2 → w9.heap[x]? = W.heap[x]? := fun x hx => by rw [hg9.block x (by omega) (by intro e; injection e; omega)]; exact hSl x hx
    refine hK.out _ _ hS9 ?_
    refine wpAnyH_done (by kernel_rfl) ?_ _
    refine NoPanic.normal ?_
    have HF : Hid (LcIn w9 (fun x => P x ∨ w.heap.size ≤ x) (.app (a.sub k s m) (b.sub k s m)) (.slice o6 (Lm.app (a.sub k s m) (b.sub k s m)).kids.length c6) ∧ Below w.heap.size w w9 ∧ RowAt w9 (w.heap.size + 1 + 1) 54 (lcC 3 0 (.slice o6 (Lm.app (a.sub k s m) (b.sub k s m)).kids.length c6))) := by
      refine ⟨LcIn.keep (w := w6) (by omega) (fun x hx hl => hg9.block x hl (by intro e; injection e with e; rcases hx with (hx | hx) | hx <;> omega)) (fun x hx _ => by rcases hx with (hx | hx) | hx; exact .inl hx.1; exact .inr (by omega); exact .inr (by omega)) hz6, (((HBW.out.trans (hw5.mono HBW.out.size)).trans (hw7.mono (by omega))).trans (hw6.mono (by omega))).grown hg9 (by omega) (by intro k hk; cases hk; omega), hR9⟩
    clear hK hS hS5 hS7 hSl hS9 hz5 hz6 hz7 hz5' hz7' hw5 hw6 hw7 hg9 hR9 hRz
    go_wp2
    exact bodyPost_ret (v := .agg (lcC 3 0 (.slice o6 (Lm.app (a.sub k s m) (b.sub k s m)).kids.length c6))) (results_cell_row Try.results129 _ _ (w.heap.size + 1 + 1) 54 (lcC 3 0 (.slice o6 (Lm.app (a.sub k s m) (b.sub k s m)).kids.length c6)) (0, 0) _ rfl HF.out.2.2 Try.underlying54 rfl zero_lcT.2) rfl ⟨⟨_, rfl, HF.out.1⟩, HF.out.2.1⟩
theorem lcSubst_all (k : Int) (s : Lm) (hk : 0 ≤ k ∧ k ≤ 100000) (hsb : s.bd) (hss : s.sz ≤ 100000) : ∀ N, SbC k s N := by
  intro N
  induction N using Nat.strongRecOn with
  | _ N IH => exact lcSubst_step k s hk hsb hss N IH
end Go.Proofs.Ytbnagagdboeedaa
