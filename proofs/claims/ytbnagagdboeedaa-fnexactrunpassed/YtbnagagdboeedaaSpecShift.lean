/-
  What lcShift of the model answers.
-/
import Derived.Test.YtbnagagdboeedaaLcOut
import Derived.Test.YtbnagagdboeedaaImplRep
namespace Go.Proofs.Ytbnagagdboeedaa
open Go.RowKit BL
set_option linter.unusedVariables false

/-- The answer of lcShift: the tree shifted and true, or false. -/
def ShOut (w : World) (t : Lm) (d f : Int) (P : Nat → Prop) (e : Ending) (w' : World) : Prop :=
  (t.shiftOk d f = true ∧ ∃ z, e = .returned (.tuple #[.agg (lcC (t.shift d f).kd (t.shift d f).nm z), .bool true]) ∧ LcIn w' (fun x => P x ∨ w.heap.size ≤ x) (t.shift d f) z) ∨
  (t.shiftOk d f = false ∧ ∃ k n o m c, e = .returned (.tuple #[.agg (lcC k n (.slice o m c)), .bool false]))
def ShC (d : Int) (N : Nat) : Prop := ∀ (t : Lm), t.sz ≤ N → ∀ (f : Int) (z : Value) (P : Nat → Prop) (w : World), LcIn w P t z → t.bd → -1000000 ≤ f → f + t.sz ≤ 1000000 →
    Calls Try.prog 58 #[.agg (lcC t.kd t.nm z), .int .i64 d, .int .i64 f] w fun e w' => ShOut w t d f P e w' ∧ Below w.heap.size w w'
/-- How deep a part lies below lambdas. -/
theorem shift_kids (d f : Int) (t : Lm) (h : t.kids ≠ []) : (t.shift d f).kids = t.kids.map (fun s => s.shift d (f + t.lams)) ∧ (t.shift d f).kd = t.kd ∧ (t.shift d f).nm = 0 ∧ t.shiftOk d f = t.kids.all (fun s => s.shiftOk d (f + t.lams)) := by
  cases t with
  | var n => exact absurd rfl h
  | lam t => simp [Lm.kids, Lm.shift, Lm.kd, Lm.nm, Lm.lams, Lm.shiftOk]
  | app a b => simp [Lm.kids, Lm.shift, Lm.kd, Lm.nm, Lm.lams, Lm.shiftOk]
set_option maxHeartbeats 8000000 in
set_option maxRecDepth 100000 in
theorem lcShift_step (d : Int) (hd : -1000000 ≤ d ∧ d ≤ 1000000) (N : Nat) (IH : ∀ n, n < N → ShC d n) : ShC d N := by
  intro t ht f z P w hz hbd hf1 hf2
  obtain ⟨hd1, hd2⟩ := hd
  have hz0 := zero_lcT.1
  obtain ⟨oz, cz, hzz⟩ := hz.form
  subst hzz
  obtain ⟨W, hWd⟩ : ∃ W, W = (w.alloc (.cells #[.int .i64 t.kd, .int .i64 t.nm, .slice oz t.kids.length cz] 54)).alloc (.cells #[.int .i64 0, .int .i64 0, .slice none 0 0] 54) := ⟨_, rfl⟩
  have hWs : W.heap.size = w.heap.size + 2 := by rw [hWd]; simp
  have hBW : Below w.heap.size w W := by rw [hWd]; exact ((Below.refl _ _).alloc (Nat.le_refl _) _).alloc (by simp) _
  have hR0 : RowAt W w.heap.size 54 #[.int .i64 t.kd, .int .i64 t.nm, .slice oz t.kids.length cz] := by rw [hWd]; exact RowAt.old (RowAt.new _ _ _) _
  have hR1 : RowAt W (w.heap.size + 1) 54 #[.int .i64 0, .int .i64 0, .slice none 0 0] := by
    rw [hWd]
    have := RowAt.new (w.alloc (.cells #[.int .i64 t.kd, .int .i64 t.nm, .slice oz t.kids.length cz] 54)) 54 #[.int .i64 0, .int .i64 0, .slice none 0 0]
    rwa [World.size_alloc] at this
  by_cases hkk : t.kids = []
  · cases t with
    | lam s => simp [Lm.kids] at hkk
    | app p q => simp [Lm.kids] at hkk
    | var n =>
    obtain ⟨hn1, hn2⟩ := hbd
    have hw2 : IntKind.i64.wrap (n + d) = n + d := by rw [IntKind.wrap_i64]; omega
    simp only [Lm.kids, List.length_nil, Lm.kd, Lm.nm] at hR0 hWd hz ⊢
    clear IH hkk
    unfold lcC
    have c0 : W.cell? ⟨w.heap.size, 0, none⟩ = some (.int .i64 1) := by rw [cell_of_row _ _ _ _ _ _ hR0]; rfl
    have c1 : W.cell? ⟨w.heap.size, 1, none⟩ = some (.int .i64 n) := by rw [cell_of_row _ _ _ _ _ _ hR0]; rfl
    have c2 : W.cell? ⟨w.heap.size, 2, none⟩ = some (.slice oz 0 cz) := by rw [cell_of_row _ _ _ _ _ _ hR0]; rfl
    have HW := hideT' (And.intro hBW hR1)
    by_cases h : n < f
    · have HSH : Hid ((Lm.var n).shift d f = .var n ∧ (Lm.var n).shiftOk d f = true) := ⟨by rw [Lm.shift, if_pos h], by simp [Lm.shiftOk, h]⟩
      clear hR0 hBW hz hR1
      go_enter Try.func58, Try.ntmps58
      go_wp2
      have hR5 : RowAt ((w.alloc (.cells #[.int .i64 1, .int .i64 n, .slice oz 0 cz] 54)).alloc (.cells #[.int .i64 1, .int .i64 n, .slice oz 0 cz] 54)) (w.heap.size + 1) 54 (lcC 1 n (.slice oz 0 cz)) := by
        have := RowAt.new (w.alloc (.cells #[.int .i64 1, .int .i64 n, .slice oz 0 cz] 54)) 54 (lcC 1 n (.slice oz 0 cz))
        rwa [World.size_alloc] at this
      exact bodyPost_ret (v := .tuple #[.agg (lcC 1 n (.slice oz 0 cz)), .bool true]) (res_lc_tmp Try.results58 _ _ (w.heap.size + 1) 1 n (.slice oz 0 cz) (.bool true) rfl rfl hR5) rfl ⟨.inl ⟨HSH.out.2, .slice oz 0 cz, by rw [HSH.out.1]; rfl, by rw [HSH.out.1]; exact ⟨oz, cz, rfl⟩⟩, ((Below.refl _ _).alloc (Nat.le_refl _) _).alloc (by simp) _⟩
    · have HSH : Hid ((Lm.var n).shift d f = .var (n + d) ∧ (Lm.var n).shiftOk d f = decide (f ≤ n + d)) := ⟨by rw [Lm.shift, if_neg h], by simp [Lm.shiftOk, h]⟩
      clear hz
      go_enter Try.func58, Try.ntmps58
      go_wp2_with fail
      rw [← hWd]
      refine held_begin (fun w' => w'.cell? ⟨w.heap.size, 1, none⟩ = some (.int .i64 n)) (by kernel_rfl) ?_
      have hS : W.drew.cell? ⟨w.heap.size, 1, none⟩ = some (.int .i64 n) := c1
      refine held_valS 0 (some 21) rfl rfl (by kernel_rfl) (by kernel_rfl) (by kernel_rfl) noPanic_put rfl (.pointer (some ⟨w.heap.size, 1, none⟩)) (fun _ _ => by go_simp) hS ?_
      simp only [Act.put, List.setIfInBounds_toArray, List.set_cons_zero, List.set_cons_succ]
      refine held_valS 1 (some 22) rfl rfl (by kernel_rfl) (by kernel_rfl) (by kernel_rfl) noPanic_put rfl (.int .i64 n) (fun w' h => by have c := h; go_simp) hS ?_
      simp only [Act.put, List.setIfInBounds_toArray, List.set_cons_zero, List.set_cons_succ]
      refine held_valS 2 (some 23) rfl rfl (by kernel_rfl) (by kernel_rfl) (by kernel_rfl) noPanic_put rfl (.int .i64 d) (fun _ _ => by go_simp) hS ?_
      simp only [Act.put, List.setIfInBounds_toArray, List.set_cons_zero, List.set_cons_succ]
      refine held_valS 3 (some 24) rfl rfl (by kernel_rfl) (by kernel_rfl) (by kernel_rfl) noPanic_put rfl (.int .i64 (n + d)) (fun _ _ => by go_simp) hS ?_
      simp only [Act.put, List.setIfInBounds_toArray, List.set_cons_zero, List.set_cons_succ]
      refine held_valS 5 (some 26) rfl rfl (by kernel_rfl) (by kernel_rfl) (by kernel_rfl) noPanic_put rfl (.pointer (some ⟨w.heap.size, 1, none⟩)) (fun _ _ => by go_simp) hS ?_
      simp only [Act.put, List.setIfInBounds_toArray, List.set_cons_zero, List.set_cons_succ]
      refine held_valS 6 (some 27) rfl rfl (by kernel_rfl) (by kernel_rfl) (by kernel_rfl) noPanic_put rfl (.int .i64 n) (fun w' h => by have c := h; go_simp) hS ?_
      simp only [Act.put, List.setIfInBounds_toArray, List.set_cons_zero, List.set_cons_succ]
      refine held_valS 7 (some 28) rfl rfl (by kernel_rfl) (by kernel_rfl) (by kernel_rfl) noPanic_put rfl (.int .i64 d) (fun _ _ => by go_simp) hS ?_
      simp only [Act.put, List.setIfInBounds_toArray, List.set_cons_zero, List.set_cons_succ]
      refine held_valS 8 (some 29) rfl rfl (by kernel_rfl) (by kernel_rfl) (by kernel_rfl) noPanic_put rfl (.int .i64 (n + d)) (fun _ _ => by go_simp) hS ?_
      simp only [Act.put, List.setIfInBounds_toArray, List.set_cons_zero, List.set_cons_succ]
      refine held_valS 9 (some 30) rfl rfl (by kernel_rfl) (by kernel_rfl) (by kernel_rfl) noPanic_put rfl (.int .i64 f) (fun _ _ => by go_simp) hS ?_
      simp only [Act.put, List.setIfInBounds_toArray, List.set_cons_zero, List.set_cons_succ]
      refine held_valS 10 (some 31) rfl rfl (by kernel_rfl) (by kernel_rfl) (by kernel_rfl) noPanic_put rfl (.bool (decide (f ≤ n + d))) (fun _ _ => by go_simp) hS ?_
      simp only [Act.put, List.setIfInBounds_toArray, List.set_cons_zero, List.set_cons_succ]
      refine held_call 4 (some 25) (by kernel_rfl) rfl rfl rfl 86 #[.int .i64 (n + d)] (by go_simp) _ (lcVar_any (n + d) _) ?_
      rintro e w5 ⟨rfl, hB5⟩
      have hB5 : Below W.heap.size W w5 := ⟨hB5.os, hB5.tape, hB5.output, hB5.size, hB5.block⟩
      have hS5 : w5.cell? ⟨w.heap.size, 1, none⟩ = some (.int .i64 n) := by rw [hB5.cell (p := ⟨w.heap.size, 1, none⟩) (by show w.heap.size < W.heap.size; omega)]; exact c1
      refine ⟨_, rfl, hS5, ?_⟩
      simp only [Act.put, List.setIfInBounds_toArray, List.set_cons_zero, List.set_cons_succ]
      have hR5 : RowAt w5 (w.heap.size + 1) 54 #[.int .i64 0, .int .i64 0, .slice none 0 0] := hR1.below hB5 (by omega)
      refine held_one 11 (by kernel_rfl) rfl rfl ?_
      intro K hK
      refine store_3_wp 54 (.tmp 6) (.tmp 25) rfl rfl zero_lcT.2 (w.heap.size + 1) (lcC 1 (n + d) (.slice none 0 0)) rfl (lcC_one _ _ _ rfl) rfl rfl #[.int .i64 0, .int .i64 0, .slice none 0 0] rfl hR5 ?_
      intro w6 hR6 hg6 hs6
      have hS6 : w6.cell? ⟨w.heap.size, 1, none⟩ = some (.int .i64 n) := by rw [World.cell?_of_block (w := w5) (a := ⟨w.heap.size, 1, none⟩) (hg6.block _ (by have := hB5.size; show w.heap.size < w5.heap.size; omega) (by intro e; injection e with e; have e : w.heap.size = w.heap.size + 1 := e; omega))]; exact hS5
      refine hK.out _ _ hS6 ?_
      refine held_assign 12 (some 7) (by kernel_rfl) rfl rfl _ rfl rfl (.bool (decide (f ≤ n + d))) rfl hS6 ?_
      simp only [Act.put, List.setIfInBounds_toArray, List.set_cons_zero, List.set_cons_succ]
      refine wpAnyH_done (by kernel_rfl) ?_ _
      refine NoPanic.normal ?_
      have HF := hideT' (And.intro hR6 ((HW.out.1.trans (hB5.mono HW.out.1.size)).grown hg6 (by have := hB5.size; have := HW.out.1.size; omega) (by intro k hk; cases hk; omega)))
      obtain ⟨q, hq⟩ : ∃ q, q = decide (f ≤ n + d) := ⟨_, rfl⟩
      rw [← hq] at HSH ⊢
      clear hq hK hS5 hS6 hB5 hg6 hR6 hR5
      go_wp2
      refine bodyPost_ret (v := .tuple #[.agg (lcC 1 (n + d) (.slice none 0 0)), .bool q]) (res_lc_tmp Try.results58 _ _ (w.heap.size + 1) 1 (n + d) (.slice none 0 0) (.bool q) rfl rfl HF.out.1) rfl ⟨?_, HF.out.2⟩
      cases q with
      | true => exact .inl ⟨HSH.out.2, .slice none 0 0, by rw [HSH.out.1]; rfl, by rw [HSH.out.1]; exact ⟨none, 0, rfl⟩⟩
      | false => exact .inr ⟨HSH.out.2, _, _, _, _, _, rfl⟩
  · have hne : t.kids ≠ [] := hkk
    obtain ⟨e1, e2, e3, e4⟩ := shift_kids d f t hne
    have HSK : Hid ((t.shift d f).kids = t.kids.map (fun s => s.shift d (f + t.lams)) ∧ (t.shift d f).kd = t.kd ∧ (t.shift d f).nm = 0 ∧ t.shiftOk d f = t.kids.all (fun s => s.shiftOk d (f + t.lams))) := ⟨e1, e2, e3, e4⟩
    have HIH := hideT' IH
    have HTN := hideT' ht
    have HZ := hideT' hz
    have HBD := hideT' hbd
    obtain ⟨q, hq⟩ : ∃ q, q = t.kids.length := ⟨_, rfl⟩
    have hq2 : q ≤ 2 := by rw [hq]; cases t <;> simp [Lm.kids]
    obtain ⟨kd, hkd⟩ : ∃ kd, kd = t.kd := ⟨_, rfl⟩
    have hkl : (kd = 2 ∧ t.lams = 1) ∨ (kd = 3 ∧ t.lams = 0) := by rw [hkd]; cases t <;> simp [Lm.kids, Lm.kd, Lm.lams] at hne ⊢
    obtain ⟨nm, hnm⟩ : ∃ nm, nm = t.nm := ⟨_, rfl⟩
    rw [← hq, ← hkd, ← hnm] at hR0 hWd
    rw [← hq] at HZ
    rw [← hkd, ← hnm, ← hq]
    have HQ := hideT' hq
    have HKD := hideT' hkd
    obtain ⟨F, hF⟩ : ∃ F, F = f + (t.lams : Int) := ⟨_, rfl⟩
    rw [← hF] at HSK
    have hkl2 : (kd = 2 ∧ F = f + 1) ∨ (kd = 3 ∧ F = f) := by rcases hkl with h | h; exact .inl ⟨h.1, by rw [hF, h.2]; rfl⟩; exact .inr ⟨h.1, by rw [hF, h.2]; simp⟩
    have hszb : ∀ s ∈ t.kids, s.sz < t.sz := fun s hs => Lm.kids_lt hs
    have HSZ := hideT' hszb
    clear IH hkk hz hq hkd hnm hne e1 e2 e3 e4 hbd hszb hkl hF
    unfold lcC
    have c0 : W.cell? ⟨w.heap.size, 0, none⟩ = some (.int .i64 kd) := by rw [cell_of_row _ _ _ _ _ _ hR0]; rfl
    have c2 : W.cell? ⟨w.heap.size, 2, none⟩ = some (.slice oz q cz) := by rw [cell_of_row _ _ _ _ _ _ hR0]; rfl
    obtain ⟨W3, hW3⟩ : ∃ W3, W3 = W.alloc (.cells #[.int .i64 kd, .int .i64 0, .slice none 0 0] 54) := ⟨_, rfl⟩
    have hB3 : Below w.heap.size w W3 := by rw [hW3]; exact hBW.alloc (by omega) _
    have hs3 : W3.heap.size = w.heap.size + 3 := by rw [hW3, World.size_alloc, hWs]
    have hRo : RowAt W3 (w.heap.size + 2) 54 (lcC kd 0 (.slice none 0 0)) := by rw [hW3, ← hWs]; exact RowAt.new W _ _
    have HRR : Hid (RowAt W3 w.heap.size 54 #[.int .i64 kd, .int .i64 nm, .slice oz q cz] ∧ RowAt W3 (w.heap.size + 1) 54 #[.int .i64 0, .int .i64 0, .slice none 0 0]) := by rw [hW3]; exact ⟨RowAt.old hR0 _, RowAt.old hR1 _⟩
    have HOS := hideT' (OutZ.start (P := fun x => P x ∧ x < w.heap.size) hRo)
    have HB3 := hideT' hB3
    have HS3 := hideT' hs3
    have d2 : W3.cell? ⟨w.heap.size, 2, none⟩ = some (.slice oz q cz) := by rw [cell_of_row _ _ _ _ _ _ HRR.out.1]; rfl
    have d0 : W3.cell? ⟨w.heap.size, 0, none⟩ = some (.int .i64 kd) := by rw [cell_of_row _ _ _ _ _ _ HRR.out.1]; rfl
    have hal : W.alloc (.cells #[.int .i64 kd, .int .i64 0, .slice none 0 0] 54) = W3 := hW3.symm
    have hff : f + 2 ≤ 1000000 ∨ f + 2 ≤ 1000001 := by
      have := t.sz_pos
      omega
    have hf3 : F + t.sz ≤ 1000001 := by rcases hkl2 with h | h <;> omega
    have hf4 : -1000000 ≤ F := by rcases hkl2 with h | h <;> omega
    have hf5 : f + 1 ≤ 1000000 := by have := t.sz_pos; omega
    have HFF := hideT' (And.intro hf3 hf4)
    clear hR0 hBW hR1 hB3 hRo hs3 hff hf3 hf4 hf2 hal hWs c0 c2 d0 d2 ht
    obtain ⟨i0, hi, hzz0, hzz1, hzz2⟩ := info_parts info_lcT
    go_enter Try.func58, Try.ntmps58
    rcases hkl2 with ⟨hk2, hl1⟩ | ⟨hk2, hl1⟩
    · subst hl1
      subst hk2
      go_wp2_with fail
      rw [← hWd, ← hW3]
      go_loopg [43] q (fun gg i wr => ∃ (As Bs : List Lm) (z : Value) (ys : List Value), gg = Bs.length ∧ Hid (t.kids = As ++ Bs ∧ As.all (fun s => s.shiftOk d (f + 1)) = true) ∧ i = .int .i64 (As.length : Int) ∧ Hid (OutZ W3 wr (w.heap.size + 2) 2 0 (fun x => P x ∧ x < w.heap.size) (As.map (fun s => s.shift d (f + 1))) z ys) ∧ Hid (Below w.heap.size w wr))
      case atStart => exact ⟨[], t.kids, .slice none 0 0, [], by rw [HQ.out], ⟨rfl, rfl⟩, rfl, HOS, HB3⟩
      case round =>
        obtain ⟨As, Bs, z, ys, hgg, HA, rfl, HO, HB⟩ := hrel
        obtain ⟨j, hj⟩ : ∃ j, j = As.length := ⟨_, rfl⟩
        obtain ⟨ox, cx, hzx⟩ := own_formT HO.out.own
        rw [List.length_map, ← hj] at hzx
        subst hzx
        rw [← hj]
        have HJ := hideT' hj
        clear hj
        have hRt : RowAt wr w.heap.size 54 #[.int .i64 2, .int .i64 nm, .slice oz q cz] := HO.out.rowOf (by omega) HRR.out.1
        have hRz : RowAt wr (w.heap.size + 1) 54 #[.int .i64 0, .int .i64 0, .slice none 0 0] := HO.out.rowOf (by omega) HRR.out.2
        have hRo : RowAt wr (w.heap.size + 2) 54 (lcC 2 0 (.slice ox j cx)) := HO.out.row
        have hws : w.heap.size + 2 < wr.heap.size := hRo.lt
        cases Bs with
        | nil =>
          have hjm : j = q := by rw [HJ.out, HQ.out, HA.out.1]; simp
          have hnl : ¬ (j : Int) < (q : Int) := by omega
          have HEK : Hid ((t.shift d f).kids = As.map (fun s => s.shift d (f + 1)) ∧ t.shiftOk d f = true) := ⟨by rw [HSK.out.1, HA.out.1]; simp, by rw [HSK.out.2.2.2, HA.out.1]; simpa using HA.out.2⟩
          clear hgg hjm
          go_wp2_with (first | (refine wpList_load_row rfl 54 _ rfl (w.heap.size + 2) rfl 54 (lcC 2 0 (.slice ox j cx)) (0, 0) _ hRo Try.underlying54 rfl zero_lcT.2 ?_) | (refine store_3 rfl 54 _ _ rfl rfl zero_lcT.2 (w.heap.size + 1) (lcC 2 0 (.slice ox j cx)) rfl (lcC_one _ _ _ rfl) rfl rfl _ rfl hRz ?_; intro w5 hR5 hg5 hs5))
          have hst : ∀ b, b ≠ w.heap.size + 1 → b < wr.heap.size → w5.heap[b]? = wr.heap[b]? := fun b h1 h2 => hg5.block b h2 (by intro e; injection e with e; exact h1 e)
          have hfin : LcIn w5 (fun x => P x ∨ w.heap.size ≤ x) (t.shift d f) (.slice ox j cx) := by
            have ho := HO.out
            rw [← HEK.out.1] at ho
            refine LcIn.keep (w := wr) (by omega) (fun x hx hl => hst x (by have := HS3.out; rcases hx with hx | hx <;> omega) hl) (fun x hx _ => ?_) ho.done
            have := HS3.out
            rcases hx with hx | hx
            · exact .inl hx.1.1
            · exact .inr (by omega)
          exact bodyPost_ret (v := .tuple #[.agg (lcC 2 0 (.slice ox j cx)), .bool true]) (res_lc_tmp Try.results58 _ _ (w.heap.size + 1) 2 0 (.slice ox j cx) (.bool true) rfl rfl hR5) rfl ⟨.inl ⟨HEK.out.2, .slice ox j cx, by rw [HSK.out.2.1, HSK.out.2.2.1, ← HKD.out], hfin⟩, HB.out.grown hg5 (by have := HB.out.size; omega) (by intro k hk; cases hk; omega)⟩
        | cons T Bs =>
          have hil : (j : Int) < (q : Int) := by rw [HQ.out, HA.out.1, List.length_append, ← HJ.out]; simp; omega
          have hkj : t.kids[j]? = some T := by rw [HA.out.1, HJ.out]; simp
          have hTm : T ∈ t.kids := List.mem_of_getElem? hkj
          have hzr : LcIn wr (fun b => P b ∧ b < w.heap.size) t (.slice oz q cz) := LcIn.keep (w := w) HB.out.size (fun x hx hl => HB.out.block x hl) (fun x hx hl => ⟨hx, hl⟩) HZ.out
          obtain ⟨o', c', e', hpart⟩ := hzr.parts
          injection e' with e1 e2 e3
          subst e1
          clear e2 e3
          obtain ⟨g, z1, hoz, hg, ⟨k0, k1, k2⟩, hz1⟩ := hpart j T hkj
          subst hoz
          have hg1 := hg.1
          obtain ⟨oz1, cz1, hzz1'⟩ := hz1.form
          subst hzz1'
          obtain ⟨W2, hW2⟩ : ∃ W2, W2 = wr.alloc (.cells #[.int .i64 T.kd, .int .i64 T.nm, .slice oz1 T.kids.length cz1] 54) := ⟨_, rfl⟩
          have hB2 : Below wr.heap.size wr W2 := by rw [hW2]; exact (Below.refl _ _).alloc (Nat.le_refl _) _
          have hz2 : LcIn W2 (fun b => P b ∧ b < w.heap.size) T (.slice oz1 T.kids.length cz1) := LcIn.below hB2 hz1
          have hTs := HSZ.out T hTm
          have HCALL := hideT' (HIH.out T.sz (by have := HTN.out; omega) T (Nat.le_refl _) (f + 1) _ _ W2 hz2 (Lm.bd_kid HBD.out hTm) HFF.out.2 (by have := HFF.out.1; omega))
          have HB2 := hideT' hB2
          have hs2 : W2.heap.size = wr.heap.size + 1 := by rw [hW2]; simp
          have HS2 := hideT' hs2
          have HRS := hideT' (And.intro hRt (And.intro hRz hRo))
          have HTM := hideT' hTm
          unfold lcC at HCALL
          clear hzr hpart hz1 hz2 hB2 hkj hTm hRt hRz hRo hTs hs2
          go_wp2_with fail
          rw [← hW2]
          refine HCALL.out.mono ?_
          rintro e w9 ⟨hout, hB9⟩
          have hB29 : Below wr.heap.size wr w9 := HB2.out.trans (hB9.mono HB2.out.size)
          have hO9 := HO.out.below hB29
          have hs9 := hB9.size
          have hsw9 : w.heap.size + 2 < w9.heap.size := by have := HS2.out; omega
          have HB9 : Hid (Below w.heap.size w w9) := HB.out.trans (hB29.mono HB.out.size)
          have HRT9 := hideT' (HRS.out.1.below hB29 (by omega))
          have HRZ9 := hideT' (HRS.out.2.1.below hB29 (by omega))
          have r0 : w9.cell? ⟨w.heap.size, 0, none⟩ = some (.int .i64 2) := by rw [cell_of_row _ _ _ _ _ _ HRT9.out]; rfl
          have r1 : w9.cell? ⟨w.heap.size, 1, none⟩ = some (.int .i64 nm) := by rw [cell_of_row _ _ _ _ _ _ HRT9.out]; rfl
          have r2 : w9.cell? ⟨w.heap.size, 2, none⟩ = some (.slice (some ⟨g, 0, none⟩) q cz) := by rw [cell_of_row _ _ _ _ _ _ HRT9.out]; rfl
          clear k0 k1 k2 hW2
          rcases hout with ⟨hok, z9, rfl, hz9⟩ | ⟨hno, k9, n9, o9, m9, c9, rfl⟩
          · obtain ⟨o9, c9, hzz9⟩ := hz9.form
            subst hzz9
            have hp9 : LcIn w9 (OutP W3 (w.heap.size + 2) (fun x => P x ∧ x < w.heap.size) (.slice ox j cx)) (T.shift d (f + 1)) (.slice o9 (T.shift d (f + 1)).kids.length c9) := HO.out.part (Nat.le_refl _) hz9 (fun x hx _ => by rcases hx with hx | hx; exact .inl ⟨hx, by omega⟩; exact .inr (by have := HS2.out; omega))
            obtain ⟨k9, hk9⟩ : ∃ k9, k9 = (T.shift d (f + 1)).kd := ⟨_, rfl⟩
            obtain ⟨n9, hn9⟩ : ∃ n9, n9 = (T.shift d (f + 1)).nm := ⟨_, rfl⟩
            obtain ⟨l9, hl9⟩ : ∃ l9, l9 = (T.shift d (f + 1)).kids.length := ⟨_, rfl⟩
            rw [← hl9] at hp9
            rw [← hk9, ← hn9, ← hl9]
            have hOX := hO9.below ((Below.refl _ _).alloc (Nat.le_refl _) (.cells #[.int .i64 k9, .int .i64 n9, .slice o9 l9 c9] 54))
            have hpX := LcIn.below ((Below.refl w9.heap.size w9).alloc (Nat.le_refl _) (.cells #[.int .i64 k9, .int .i64 n9, .slice o9 l9 c9] 54)) hp9
            have hRX := hOX.row
            have r3 : w9.cell? ⟨w.heap.size + 2, 2, none⟩ = some (.slice ox j cx) := by rw [cell_of_row _ _ _ _ _ _ hO9.row]; rfl
            have HOX := hideT' hOX
            have HPX := hideT' hpX
            have HN9 := hideT' (And.intro hk9 (And.intro hn9 hok))
            have HLC : Hid (∀ jj uu, (lcL k9 n9 (.slice o9 l9 c9))[jj]? = some uu → ((w9.alloc (.cells #[.int .i64 k9, .int .i64 n9, .slice o9 l9 c9] 54)).alloc (.cells #[.int .i64 k9, .int .i64 n9, .slice o9 l9 c9] 54)).cell? ((⟨w9.heap.size + 1, 0, none⟩ : Addr).add jj) = some uu) := by
              have := lc_cells (w9.alloc (.cells #[.int .i64 k9, .int .i64 n9, .slice o9 l9 c9] 54)) k9 n9 (.slice o9 l9 c9)
              rw [World.size_alloc] at this
              exact this
            have hown : (w9.alloc (.cells #[.int .i64 k9, .int .i64 n9, .slice o9 l9 c9] 54)).ownsRow W3.heap.size 54 3 (.slice ox j cx) j ys := by have := hOX.own; rwa [List.length_map, ← HJ.out] at this
            have HOWN := hideT' hown
            have hb3 : W3.heap.size ≤ w9.heap.size := by have := HO.out.size; have := HS2.out; omega
            have HROW : Hid (RowAt ((w9.alloc (.cells #[.int .i64 k9, .int .i64 n9, .slice o9 l9 c9] 54)).alloc (.cells #[.int .i64 k9, .int .i64 n9, .slice o9 l9 c9] 54)) (w.heap.size + 2) 54 (lcC 2 0 (.slice ox j cx))) := RowAt.old hRX _
            have HNB : Hid (∀ b, (Value.slice ox j cx).ownBlock = some b → W3.heap.size ≤ b) := fun b e => (hown.lt b e).1
            clear hk9 hn9 hl9 hok hOX hpX hRX hO9 hz9 hp9 hown hB9 hB29
            unfold lcC
            go_wp2_with (first | (at_builtin; refine append_own3 _ rfl _ _ 52 rfl W3.heap.size 54 i0 (.agg #[.int .i64 0, .int .i64 0, .slice none 0 0]) 3 40 Try.underlying52 hi hzz0 hzz1 hzz2 rfl (by decide) (.slice ox j cx) j ys rfl (HOWN.out.alloc _) ⟨w9.heap.size + 1, 0, none⟩ 1 1 (lcL k9 n9 (.slice o9 l9 c9)) rfl rfl HLC.out (lcL_one _ _ _ rfl) (by omega) (by unfold maxLen; omega) (by omega) (by simp; omega) ?_; intro v6 w6 hv6 hg6 hb6; obtain ⟨o6, c6, hv6e⟩ := own_formT hv6; subst hv6e; have hR6 : RowAt w6 (w.heap.size + 2) 54 (lcC 2 0 (.slice ox j cx)) := HROW.out.grown hg6 (fun e => by have := HNB.out _ e.symm; have := HS3.out; omega); have HV6 := hideT' hv6; have HG6 := hideT' hg6; have HB6 := hideT' hb6; clear hv6 hg6 hb6) | (refine store_at rfl 52 _ _ rfl rfl (w.heap.size + 2) 2 (.slice o6 (j + 1) c6) rfl rfl one_sllc rfl 54 (lcC 2 0 (.slice ox j cx)) hR6 (show 2 < 3 by omega) ?_; intro w7 hR7 hg7 hs7))
            have HEND : Hid (OutZ W3 w7 (w.heap.size + 2) 2 0 (fun x => P x ∧ x < w.heap.size) ((As ++ [T]).map (fun s => s.shift d (f + 1))) (.slice o6 (j + 1) c6) (ys ++ lcL (T.shift d (f + 1)).kd (T.shift d (f + 1)).nm (.slice o9 l9 c9))) := by
              unfold Hid
              rw [List.map_append]
              refine OutZ.push HOX.out HPX.out ?_ HG6.out HB6.out hR7 hg7
              rw [List.length_map, ← HJ.out, ← HN9.out.1, ← HN9.out.2.1]
              exact HV6.out
            have HA2 : Hid (t.kids = (As ++ [T]) ++ Bs ∧ (As ++ [T]).all (fun s => s.shiftOk d (f + 1)) = true) := ⟨by rw [HA.out.1]; simp, by rw [List.all_append, HA.out.2]; simp [HN9.out.2.2]⟩
            have HB7 : Hid (Below w.heap.size w w7) := ((HB9.out.alloc (by omega) _).alloc (by simp; omega) _ |>.grown HG6.out (by simp; omega) (fun k e => by have := HNB.out k e; have := HS3.out; omega)).grown hg7 (by have := HG6.out.size; simp at this; omega) (by intro k hk; cases hk; omega)
            clear hR7 hg7 hs7 hR6
            go_wp2
            go_roundg Bs.length
            case measure => first | omega | (rw [hgg]; simp)
            case rel => exact ⟨As ++ [T], Bs, .slice o6 (j + 1) c6, _, rfl, HA2, by rw [List.length_append, ← HJ.out]; go_num, HEND, HB7⟩
          · have HNO : Hid (t.shiftOk d f = false) := by
              unfold Hid
              rw [HSK.out.2.2.2, List.all_eq_false]
              exact ⟨T, HTM.out, by simp [hno]⟩
            unfold lcC
            clear hno hB9 hB29 hO9
            go_wp2_with (first | (refine wpList_load_row rfl 54 _ rfl w.heap.size rfl 54 #[.int .i64 2, .int .i64 nm, .slice (some ⟨g, 0, none⟩) q cz] (0, 0) _ (RowAt.old HRT9.out _) Try.underlying54 rfl zero_lcT.2 ?_) | (refine store_3 rfl 54 _ _ rfl rfl zero_lcT.2 (w.heap.size + 1) (lcC 2 nm (.slice (some ⟨g, 0, none⟩) q cz)) rfl (lcC_one _ _ _ rfl) rfl rfl _ rfl (RowAt.old HRZ9.out _) ?_; intro w5 hR5 hg5 hs5))
            exact bodyPost_ret (v := .tuple #[.agg (lcC 2 nm (.slice (some ⟨g, 0, none⟩) q cz)), .bool false]) (res_lc_tmp Try.results58 _ _ (w.heap.size + 1) 2 nm (.slice (some ⟨g, 0, none⟩) q cz) (.bool false) rfl rfl hR5) rfl ⟨.inr ⟨HNO.out, _, _, _, _, _, rfl⟩, (HB9.out.alloc (by omega) _).grown hg5 (by simp; omega) (by intro k hk; cases hk; omega)⟩
    · have hl2 := hl1.symm
      clear hl1
      subst hl2
      subst hk2
      go_wp2_with fail
      rw [← hWd, ← hW3]
      go_loopg [43] q (fun gg i wr => ∃ (As Bs : List Lm) (z : Value) (ys : List Value), gg = Bs.length ∧ Hid (t.kids = As ++ Bs ∧ As.all (fun s => s.shiftOk d f) = true) ∧ i = .int .i64 (As.length : Int) ∧ Hid (OutZ W3 wr (w.heap.size + 2) 3 0 (fun x => P x ∧ x < w.heap.size) (As.map (fun s => s.shift d f)) z ys) ∧ Hid (Below w.heap.size w wr))
      case atStart => exact ⟨[], t.kids, .slice none 0 0, [], by rw [HQ.out], ⟨rfl, rfl⟩, rfl, HOS, HB3⟩
      case round =>
        obtain ⟨As, Bs, z, ys, hgg, HA, rfl, HO, HB⟩ := hrel
        obtain ⟨j, hj⟩ : ∃ j, j = As.length := ⟨_, rfl⟩
        obtain ⟨ox, cx, hzx⟩ := own_formT HO.out.own
        rw [List.length_map, ← hj] at hzx
        subst hzx
        rw [← hj]
        have HJ := hideT' hj
        clear hj
        have hRt : RowAt wr w.heap.size 54 #[.int .i64 3, .int .i64 nm, .slice oz q cz] := HO.out.rowOf (by omega) HRR.out.1
        have hRz : RowAt wr (w.heap.size + 1) 54 #[.int .i64 0, .int .i64 0, .slice none 0 0] := HO.out.rowOf (by omega) HRR.out.2
        have hRo : RowAt wr (w.heap.size + 2) 54 (lcC 3 0 (.slice ox j cx)) := HO.out.row
        have hws : w.heap.size + 2 < wr.heap.size := hRo.lt
        cases Bs with
        | nil =>
          have hjm : j = q := by rw [HJ.out, HQ.out, HA.out.1]; simp
          have hnl : ¬ (j : Int) < (q : Int) := by omega
          have HEK : Hid ((t.shift d f).kids = As.map (fun s => s.shift d f) ∧ t.shiftOk d f = true) := ⟨by rw [HSK.out.1, HA.out.1]; simp, by rw [HSK.out.2.2.2, HA.out.1]; simpa using HA.out.2⟩
          clear hgg hjm
          go_wp2_with (first | (refine wpList_load_row rfl 54 _ rfl (w.heap.size + 2) rfl 54 (lcC 3 0 (.slice ox j cx)) (0, 0) _ hRo Try.underlying54 rfl zero_lcT.2 ?_) | (refine store_3 rfl 54 _ _ rfl rfl zero_lcT.2 (w.heap.size + 1) (lcC 3 0 (.slice ox j cx)) rfl (lcC_one _ _ _ rfl) rfl rfl _ rfl hRz ?_; intro w5 hR5 hg5 hs5))
          have hst : ∀ b, b ≠ w.heap.size + 1 → b < wr.heap.size → w5.heap[b]? = wr.heap[b]? := fun b h1 h2 => hg5.block b h2 (by intro e; injection e with e; exact h1 e)
          have hfin : LcIn w5 (fun x => P x ∨ w.heap.size ≤ x) (t.shift d f) (.slice ox j cx) := by
            have ho := HO.out
            rw [← HEK.out.1] at ho
            refine LcIn.keep (w := wr) (by omega) (fun x hx hl => hst x (by have := HS3.out; rcases hx with hx | hx <;> omega) hl) (fun x hx _ => ?_) ho.done
            have := HS3.out
            rcases hx with hx | hx
            · exact .inl hx.1.1
            · exact .inr (by omega)
          exact bodyPost_ret (v := .tuple #[.agg (lcC 3 0 (.slice ox j cx)), .bool true]) (res_lc_tmp Try.results58 _ _ (w.heap.size + 1) 3 0 (.slice ox j cx) (.bool true) rfl rfl hR5) rfl ⟨.inl ⟨HEK.out.2, .slice ox j cx, by rw [HSK.out.2.1, HSK.out.2.2.1, ← HKD.out], hfin⟩, HB.out.grown hg5 (by have := HB.out.size; omega) (by intro k hk; cases hk; omega)⟩
        | cons T Bs =>
          have hil : (j : Int) < (q : Int) := by rw [HQ.out, HA.out.1, List.length_append, ← HJ.out]; simp; omega
          have hkj : t.kids[j]? = some T := by rw [HA.out.1, HJ.out]; simp
          have hTm : T ∈ t.kids := List.mem_of_getElem? hkj
          have hzr : LcIn wr (fun b => P b ∧ b < w.heap.size) t (.slice oz q cz) := LcIn.keep (w := w) HB.out.size (fun x hx hl => HB.out.block x hl) (fun x hx hl => ⟨hx, hl⟩) HZ.out
          obtain ⟨o', c', e', hpart⟩ := hzr.parts
          injection e' with e1 e2 e3
          subst e1
          clear e2 e3
          obtain ⟨g, z1, hoz, hg, ⟨k0, k1, k2⟩, hz1⟩ := hpart j T hkj
          subst hoz
          have hg1 := hg.1
          obtain ⟨oz1, cz1, hzz1'⟩ := hz1.form
          subst hzz1'
          obtain ⟨W2, hW2⟩ : ∃ W2, W2 = wr.alloc (.cells #[.int .i64 T.kd, .int .i64 T.nm, .slice oz1 T.kids.length cz1] 54) := ⟨_, rfl⟩
          have hB2 : Below wr.heap.size wr W2 := by rw [hW2]; exact (Below.refl _ _).alloc (Nat.le_refl _) _
          have hz2 : LcIn W2 (fun b => P b ∧ b < w.heap.size) T (.slice oz1 T.kids.length cz1) := LcIn.below hB2 hz1
          have hTs := HSZ.out T hTm
          have HCALL := hideT' (HIH.out T.sz (by have := HTN.out; omega) T (Nat.le_refl _) f _ _ W2 hz2 (Lm.bd_kid HBD.out hTm) HFF.out.2 (by have := HFF.out.1; omega))
          have HB2 := hideT' hB2
          have hs2 : W2.heap.size = wr.heap.size + 1 := by rw [hW2]; simp
          have HS2 := hideT' hs2
          have HRS := hideT' (And.intro hRt (And.intro hRz hRo))
          have HTM := hideT' hTm
          unfold lcC at HCALL
          clear hzr hpart hz1 hz2 hB2 hkj hTm hRt hRz hRo hTs hs2
          go_wp2_with fail
          rw [← hW2]
          refine HCALL.out.mono ?_
          rintro e w9 ⟨hout, hB9⟩
          have hB29 : Below wr.heap.size wr w9 := HB2.out.trans (hB9.mono HB2.out.size)
          have hO9 := HO.out.below hB29
          have hs9 := hB9.size
          have hsw9 : w.heap.size + 2 < w9.heap.size := by have := HS2.out; omega
          have HB9 : Hid (Below w.heap.size w w9) := HB.out.trans (hB29.mono HB.out.size)
          have HRT9 := hideT' (HRS.out.1.below hB29 (by omega))
          have HRZ9 := hideT' (HRS.out.2.1.below hB29 (by omega))
          have r0 : w9.cell? ⟨w.heap.size, 0, none⟩ = some (.int .i64 3) := by rw [cell_of_row _ _ _ _ _ _ HRT9.out]; rfl
          have r1 : w9.cell? ⟨w.heap.size, 1, none⟩ = some (.int .i64 nm) := by rw [cell_of_row _ _ _ _ _ _ HRT9.out]; rfl
          have r2 : w9.cell? ⟨w.heap.size, 2, none⟩ = some (.slice (some ⟨g, 0, none⟩) q cz) := by rw [cell_of_row _ _ _ _ _ _ HRT9.out]; rfl
          clear k0 k1 k2 hW2
          rcases hout with ⟨hok, z9, rfl, hz9⟩ | ⟨hno, k9, n9, o9, m9, c9, rfl⟩
          · obtain ⟨o9, c9, hzz9⟩ := hz9.form
            subst hzz9
            have hp9 : LcIn w9 (OutP W3 (w.heap.size + 2) (fun x => P x ∧ x < w.heap.size) (.slice ox j cx)) (T.shift d f) (.slice o9 (T.shift d f).kids.length c9) := HO.out.part (Nat.le_refl _) hz9 (fun x hx _ => by rcases hx with hx | hx; exact .inl ⟨hx, by omega⟩; exact .inr (by have := HS2.out; omega))
            obtain ⟨k9, hk9⟩ : ∃ k9, k9 = (T.shift d f).kd := ⟨_, rfl⟩
            obtain ⟨n9, hn9⟩ : ∃ n9, n9 = (T.shift d f).nm := ⟨_, rfl⟩
            obtain ⟨l9, hl9⟩ : ∃ l9, l9 = (T.shift d f).kids.length := ⟨_, rfl⟩
            rw [← hl9] at hp9
            rw [← hk9, ← hn9, ← hl9]
            have hOX := hO9.below ((Below.refl _ _).alloc (Nat.le_refl _) (.cells #[.int .i64 k9, .int .i64 n9, .slice o9 l9 c9] 54))
            have hpX := LcIn.below ((Below.refl w9.heap.size w9).alloc (Nat.le_refl _) (.cells #[.int .i64 k9, .int .i64 n9, .slice o9 l9 c9] 54)) hp9
            have hRX := hOX.row
            have r3 : w9.cell? ⟨w.heap.size + 2, 2, none⟩ = some (.slice ox j cx) := by rw [cell_of_row _ _ _ _ _ _ hO9.row]; rfl
            have HOX := hideT' hOX
            have HPX := hideT' hpX
            have HN9 := hideT' (And.intro hk9 (And.intro hn9 hok))
            have HLC : Hid (∀ jj uu, (lcL k9 n9 (.slice o9 l9 c9))[jj]? = some uu → ((w9.alloc (.cells #[.int .i64 k9, .int .i64 n9, .slice o9 l9 c9] 54)).alloc (.cells #[.int .i64 k9, .int .i64 n9, .slice o9 l9 c9] 54)).cell? ((⟨w9.heap.size + 1, 0, none⟩ : Addr).add jj) = some uu) := by
              have := lc_cells (w9.alloc (.cells #[.int .i64 k9, .int .i64 n9, .slice o9 l9 c9] 54)) k9 n9 (.slice o9 l9 c9)
              rw [World.size_alloc] at this
              exact this
            have hown : (w9.alloc (.cells #[.int .i64 k9, .int .i64 n9, .slice o9 l9 c9] 54)).ownsRow W3.heap.size 54 3 (.slice ox j cx) j ys := by have := hOX.own; rwa [List.length_map, ← HJ.out] at this
            have HOWN := hideT' hown
            have hb3 : W3.heap.size ≤ w9.heap.size := by have := HO.out.size; have := HS2.out; omega
            have HROW : Hid (RowAt ((w9.alloc (.cells #[.int .i64 k9, .int .i64 n9, .slice o9 l9 c9] 54)).alloc (.cells #[.int .i64 k9, .int .i64 n9, .slice o9 l9 c9] 54)) (w.heap.size + 2) 54 (lcC 3 0 (.slice ox j cx))) := RowAt.old hRX _
            have HNB : Hid (∀ b, (Value.slice ox j cx).ownBlock = some b → W3.heap.size ≤ b) := fun b e => (hown.lt b e).1
            clear hk9 hn9 hl9 hok hOX hpX hRX hO9 hz9 hp9 hown hB9 hB29
            unfold lcC
            go_wp2_with (first | (at_builtin; refine append_own3 _ rfl _ _ 52 rfl W3.heap.size 54 i0 (.agg #[.int .i64 0, .int .i64 0, .slice none 0 0]) 3 40 Try.underlying52 hi hzz0 hzz1 hzz2 rfl (by decide) (.slice ox j cx) j ys rfl (HOWN.out.alloc _) ⟨w9.heap.size + 1, 0, none⟩ 1 1 (lcL k9 n9 (.slice o9 l9 c9)) rfl rfl HLC.out (lcL_one _ _ _ rfl) (by omega) (by unfold maxLen; omega) (by omega) (by simp; omega) ?_; intro v6 w6 hv6 hg6 hb6; obtain ⟨o6, c6, hv6e⟩ := own_formT hv6; subst hv6e; have hR6 : RowAt w6 (w.heap.size + 2) 54 (lcC 3 0 (.slice ox j cx)) := HROW.out.grown hg6 (fun e => by have := HNB.out _ e.symm; have := HS3.out; omega); have HV6 := hideT' hv6; have HG6 := hideT' hg6; have HB6 := hideT' hb6; clear hv6 hg6 hb6) | (refine store_at rfl 52 _ _ rfl rfl (w.heap.size + 2) 2 (.slice o6 (j + 1) c6) rfl rfl one_sllc rfl 54 (lcC 3 0 (.slice ox j cx)) hR6 (show 2 < 3 by omega) ?_; intro w7 hR7 hg7 hs7))
            have HEND : Hid (OutZ W3 w7 (w.heap.size + 2) 3 0 (fun x => P x ∧ x < w.heap.size) ((As ++ [T]).map (fun s => s.shift d f)) (.slice o6 (j + 1) c6) (ys ++ lcL (T.shift d f).kd (T.shift d f).nm (.slice o9 l9 c9))) := by
              unfold Hid
              rw [List.map_append]
              refine OutZ.push HOX.out HPX.out ?_ HG6.out HB6.out hR7 hg7
              rw [List.length_map, ← HJ.out, ← HN9.out.1, ← HN9.out.2.1]
              exact HV6.out
            have HA2 : Hid (t.kids = (As ++ [T]) ++ Bs ∧ (As ++ [T]).all (fun s => s.shiftOk d f) = true) := ⟨by rw [HA.out.1]; simp, by rw [List.all_append, HA.out.2]; simp [HN9.out.2.2]⟩
            have HB7 : Hid (Below w.heap.size w w7) := ((HB9.out.alloc (by omega) _).alloc (by simp; omega) _ |>.grown HG6.out (by simp; omega) (fun k e => by have := HNB.out k e; have := HS3.out; omega)).grown hg7 (by have := HG6.out.size; simp at this; omega) (by intro k hk; cases hk; omega)
            clear hR7 hg7 hs7 hR6
            go_wp2
            go_roundg Bs.length
            case measure => first | omega | (rw [hgg]; simp)
            case rel => exact ⟨As ++ [T], Bs, .slice o6 (j + 1) c6, _, rfl, HA2, by rw [List.length_append, ← HJ.out]; go_num, HEND, HB7⟩
          · have HNO : Hid (t.shiftOk d f = false) := by
              unfold Hid
              rw [HSK.out.2.2.2, List.all_eq_false]
              exact ⟨T, HTM.out, by simp [hno]⟩
            unfold lcC
            clear hno hB9 hB29 hO9
            go_wp2_with (first | (refine wpList_load_row rfl 54 _ rfl w.heap.size rfl 54 #[.int .i64 3, .int .i64 nm, .slice (some ⟨g, 0, none⟩) q cz] (0, 0) _ (RowAt.old HRT9.out _) Try.underlying54 rfl zero_lcT.2 ?_) | (refine store_3 rfl 54 _ _ rfl rfl zero_lcT.2 (w.heap.size + 1) (lcC 3 nm (.slice (some ⟨g, 0, none⟩) q cz)) rfl (lcC_one _ _ _ rfl) rfl rfl _ rfl (RowAt.old HRZ9.out _) ?_; intro w5 hR5 hg5 hs5))
            exact bodyPost_ret (v := .tuple #[.agg (lcC 3 nm (.slice (some ⟨g, 0, none⟩) q cz)), .bool false]) (res_lc_tmp Try.results58 _ _ (w.heap.size + 1) 3 nm (.slice (some ⟨g, 0, none⟩) q cz) (.bool false) rfl rfl hR5) rfl ⟨.inr ⟨HNO.out, _, _, _, _, _, rfl⟩, (HB9.out.alloc (by omega) _).grown hg5 (by simp; omega) (by intro k hk; cases hk; omega)⟩
theorem lcShift_all (d : Int) (hd : -1000000 ≤ d ∧ d ≤ 1000000) : ∀ N, ShC d N := by
  intro N
  induction N using Nat.strongRecOn with
  | _ N IH => exact lcShift_step d hd N IH
end Go.Proofs.Ytbnagagdboeedaa
