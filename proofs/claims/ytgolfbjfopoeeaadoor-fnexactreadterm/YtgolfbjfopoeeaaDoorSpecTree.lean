/-
  What lcTree of the model answers.
-/
import Derived.Test.YtgolfbjfopoeeaaDoorLcMem
import Derived.Test.YtgolfbjfopoeeaaDoorImplRed
namespace Go.Proofs.YtgolfbjfopoeeaaDoor
open Go.RowKit BL
set_option linter.unusedVariables false

theorem lc_cells (w : World) (k n : Int) (z : Value) : ∀ j u, (lcL k n z)[j]? = some u → (w.alloc (.cells (lcC k n z) 48)).cell? ((⟨w.heap.size, 0, none⟩ : Addr).add j) = some u := fun j u hu => by
  have h1 : (w.alloc (.cells (lcC k n z) 48)).cell? ⟨w.heap.size, 0 + j, none⟩ = (lcC k n z)[0 + j]? := by rw [cell_of_row _ _ _ _ _ _ (RowAt.new w 48 (lcC k n z))]
  have h2 : (⟨w.heap.size, 0, none⟩ : Addr).add j = ⟨w.heap.size, 0 + j, none⟩ := by unfold Addr.add; split <;> simp_all
  rw [h2, h1, Nat.zero_add]
  simpa [lcC, lcL] using hu
theorem kid_seg {l : List Nd} {t : Lm} {a : Nat} {up : Int} (h : Seg l t a up) (hs : Shut l a t.sz) : ∀ (i : Nat) (s : Lm), t.kids[i]? = some s → ∃ p, (t.kidsAt a)[i]? = some p ∧ Seg l s p (a : Int) ∧ Shut l p s.sz := by
  intro i s hi
  cases t with
  | var n => simp [Lm.kids] at hi
  | lam t =>
    match i, hi with
    | 0, hi => cases hi; exact ⟨a + 1, rfl, h.2, hs.lam h⟩
    | i + 1, hi => simp [Lm.kids] at hi
  | app p q =>
    match i, hi with
    | 0, hi => cases hi; exact ⟨a + 1, rfl, h.2.1, hs.app1 h⟩
    | 1, hi => cases hi; exact ⟨a + 1 + p.sz, rfl, h.2.2, hs.app2 h⟩
    | i + 2, hi => simp [Lm.kids] at hi
theorem kidsAt_len (t : Lm) (a : Nat) : (t.kidsAt a).length = t.kids.length := by cases t <;> rfl
/-- What lcTree does. -/
def LcTreeC (N : Nat) : Prop := ∀ (t : Lm), t.sz ≤ N → ∀ (l : List Nd) (a : Nat) (up : Int) (v : Value) (w : World), l.length ≤ 150 → NdIn w v l → Seg l t a up → Shut l a t.sz →
    Calls Tryd.prog 27 #[v, .int .i64 (a : Int)] w fun e w' => (∃ z, e = .returned (.agg (lcC t.kd t.nm z)) ∧ LcIn w' (fun x => w.heap.size ≤ x) t z) ∧ Below w.heap.size w w'

set_option maxHeartbeats 8000000 in
set_option maxRecDepth 100000 in
theorem lcTree_step (N : Nat) (IH : ∀ n, n < N → LcTreeC n) : LcTreeC N := by
  intro t ht l a up v w hl hv hseg hsh
  have HIH := hideT' IH
  have HV := hideT' hv
  have HSEG := hideT' (And.intro hseg hsh)
  have HTN := hideT' ht
  obtain ⟨o, cap, rfl⟩ := hv.len
  have hal := hseg.lt
  have hnd := hseg.nd
  obtain ⟨g, rfl, hg, c0, c1, c2⟩ := hv.cells hal hnd.symm
  simp only at c0 c1 c2
  have HPT : Hid (partsTo l a l.length = t.kidsAt a) := hseg.parts hsh
  obtain ⟨kd, hkd⟩ : ∃ kd, kd = t.kd := ⟨_, rfl⟩
  obtain ⟨nm, hnm⟩ : ∃ nm, nm = t.nm := ⟨_, rfl⟩
  rw [← hkd] at c0 ⊢
  rw [← hnm] at c1 ⊢
  have HKN := hideT' (And.intro hkd hnm)
  obtain ⟨n, hn⟩ : ∃ n, n = l.length := ⟨_, rfl⟩
  have HNN := hideT' hn
  rw [← hn] at hl hal ⊢
  have hz := zero_lcT.1
  have han : (a : Int) < (n : Int) := by omega
  clear IH hv hseg hsh ht hnd hkd hnm hn c2
  have HCS : Hid (∀ w', Below w.heap.size w w' → w'.cell? ⟨g, a * 3, none⟩ = some (.int .i64 kd) ∧ w'.cell? ⟨g, a * 3 + 1, none⟩ = some (.int .i64 nm)) := fun w' h => ⟨by rw [h.cell (p := ⟨g, a * 3, none⟩) hg]; exact c0, by rw [h.cell (p := ⟨g, a * 3 + 1, none⟩) hg]; exact c1⟩
  clear c0 c1
  go_enter Tryd.func27, Tryd.ntmps27
  go_wp2_with fail
  obtain ⟨W, hWd⟩ : ∃ W, W = w.alloc (.cells #[.int .i64 0, .int .i64 0, .slice none 0 0] 48) := ⟨_, rfl⟩
  have hWs : W.heap.size = w.heap.size + 1 := by rw [hWd]; simp
  have hR0 : RowAt W w.heap.size 48 #[.int .i64 0, .int .i64 0, .slice none 0 0] := by rw [hWd]; exact RowAt.new w _ _
  have hW0 : Below w.heap.size w W := by rw [hWd]; exact (Below.refl _ _).alloc (Nat.le_refl _) _
  rw [← hWd]
  clear hWd
  refine held_begin (fun w' => Below w.heap.size w w') (by kernel_rfl) ?_
  have hS : Below w.heap.size w W.drew := hW0.drew
  -- THE REGION
  refine held_valS 0 (some 8) rfl rfl (by kernel_rfl) (by kernel_rfl) (by kernel_rfl) noPanic_put rfl (.slice (some ⟨g, 0, none⟩) n cap) (fun _ _ => by go_simp) hS ?_
  simp only [Act.put, List.setIfInBounds_toArray, List.set_cons_zero, List.set_cons_succ]
  refine held_valS 1 (some 9) rfl rfl (by kernel_rfl) (by kernel_rfl) (by kernel_rfl) noPanic_put rfl (.int .i64 (a : Int)) (fun _ _ => by go_simp) hS ?_
  simp only [Act.put, List.setIfInBounds_toArray, List.set_cons_zero, List.set_cons_succ]
  refine held_valS 2 (some 10) rfl rfl (by kernel_rfl) (by kernel_rfl) (by kernel_rfl) noPanic_put rfl (.pointer (some ⟨g, a * 3, none⟩)) (fun _ _ => by go_simp) hS ?_
  simp only [Act.put, List.setIfInBounds_toArray, List.set_cons_zero, List.set_cons_succ]
  refine held_valS 3 (some 11) rfl rfl (by kernel_rfl) (by kernel_rfl) (by kernel_rfl) noPanic_put rfl (.pointer (some ⟨g, a * 3, none⟩)) (fun _ _ => by go_simp) hS ?_
  simp only [Act.put, List.setIfInBounds_toArray, List.set_cons_zero, List.set_cons_succ]
  refine held_valS 4 (some 12) rfl rfl (by kernel_rfl) (by kernel_rfl) (by kernel_rfl) noPanic_put rfl (.int .i64 kd) (fun w' h => by have c := (HCS.out w' h).1; go_simp) hS ?_
  simp only [Act.put, List.setIfInBounds_toArray, List.set_cons_zero, List.set_cons_succ]
  refine held_valS 5 (some 13) rfl rfl (by kernel_rfl) (by kernel_rfl) (by kernel_rfl) noPanic_put rfl (.slice (some ⟨g, 0, none⟩) n cap) (fun _ _ => by go_simp) hS ?_
  simp only [Act.put, List.setIfInBounds_toArray, List.set_cons_zero, List.set_cons_succ]
  refine held_valS 6 (some 14) rfl rfl (by kernel_rfl) (by kernel_rfl) (by kernel_rfl) noPanic_put rfl (.int .i64 (a : Int)) (fun _ _ => by go_simp) hS ?_
  simp only [Act.put, List.setIfInBounds_toArray, List.set_cons_zero, List.set_cons_succ]
  refine held_valS 7 (some 15) rfl rfl (by kernel_rfl) (by kernel_rfl) (by kernel_rfl) noPanic_put rfl (.pointer (some ⟨g, a * 3, none⟩)) (fun _ _ => by go_simp) hS ?_
  simp only [Act.put, List.setIfInBounds_toArray, List.set_cons_zero, List.set_cons_succ]
  refine held_valS 8 (some 16) rfl rfl (by kernel_rfl) (by kernel_rfl) (by kernel_rfl) noPanic_put rfl (.pointer (some ⟨g, a * 3 + 1, none⟩)) (fun _ _ => by go_simp) hS ?_
  simp only [Act.put, List.setIfInBounds_toArray, List.set_cons_zero, List.set_cons_succ]
  refine held_valS 9 (some 17) rfl rfl (by kernel_rfl) (by kernel_rfl) (by kernel_rfl) noPanic_put rfl (.int .i64 nm) (fun w' h => by have c := (HCS.out w' h).2; go_simp) hS ?_
  simp only [Act.put, List.setIfInBounds_toArray, List.set_cons_zero, List.set_cons_succ]
  refine held_valS 10 (some 18) rfl rfl (by kernel_rfl) (by kernel_rfl) (by kernel_rfl) noPanic_put rfl (.agg (lcC kd nm (.slice none 0 0))) (fun _ _ => by unfold lcC; go_simp) hS ?_
  simp only [Act.put, List.setIfInBounds_toArray, List.set_cons_zero, List.set_cons_succ]
  have hS5 : Below w.heap.size w (W.drew.alloc (.cells #[.int .i64 0, .int .i64 0, .slice none 0 0] 48)) := hS.alloc (by simp; omega) _
  refine held_ready 11 (some 5) (by kernel_rfl) rfl rfl rfl (.pointer (some ⟨W.heap.size, 0, none⟩)) (W.drew.alloc (.cells #[.int .i64 0, .int .i64 0, .slice none 0 0] 48)) (by go_simp) hS5 ?_
  simp only [Act.put, List.setIfInBounds_toArray, List.set_cons_zero, List.set_cons_succ]
  refine held_one 12 (by kernel_rfl) rfl rfl ?_
  intro K hK
  refine store_3_wp 48 (.tmp 5) (.tmp 18) rfl rfl zero_lcT.2 W.heap.size (lcC kd nm (.slice none 0 0)) rfl (lcC_one _ _ _ rfl) rfl rfl #[.int .i64 0, .int .i64 0, .slice none 0 0] rfl (RowAt.new W.drew _ _) ?_
  intro w2 hR2 hg2 hs2
  have hs2' : w2.heap.size = w.heap.size + 1 + 1 := by rw [hs2]; simp; omega
  have hW2 : Below w.heap.size w w2 := hS5.grown hg2 (by simp; omega) (by intro k hk; cases hk; omega)
  have hR02 : RowAt w2 w.heap.size 48 #[.int .i64 0, .int .i64 0, .slice none 0 0] := RowAt.grown (RowAt.old (w := W.drew) hR0 _) hg2 (by intro e; injection e; omega)
  have hR2' : RowAt w2 (w.heap.size + 1) 48 (lcC kd nm (.slice none 0 0)) := by rw [← hWs]; exact hR2
  refine hK.out _ _ hW2 ?_
  refine wpAnyH_done (by kernel_rfl) ?_ _
  refine NoPanic.normal ?_
  have HPC := hideT' (lcParts_any l a (.slice (some ⟨g, 0, none⟩) n cap) w2 (by rw [HNN.out]; exact HV.out.below hW2) (by have := HNN.out; omega) (by have := HNN.out; omega))
  rw [hWs]
  clear hK hg2 hs2 hS hS5 hR0 hR2 hW0
  go_wp2_with fail
  refine HPC.out.mono ?_
  rintro e w3 ⟨⟨uu, rfl, hO⟩, hW3⟩
  rw [HPT.out] at hO
  obtain ⟨m, hm⟩ : ∃ m, m = t.kids.length := ⟨_, rfl⟩
  have hm2 : m ≤ 2 := by rw [hm]; cases t <;> simp [Lm.kids]
  obtain ⟨ou, cu, huu⟩ : ∃ o c, uu = .slice o m c := by
    obtain ⟨o, c, e⟩ := own_formT hO
    exact ⟨o, c, by rw [e, natsI_len, kidsAt_len, hm]⟩
  subst huu
  have HM := hideT' hm
  have HU := hideT' (OwnR.inR (l := natsI (t.kidsAt a)) hO intL_len)
  have HUB : Hid (∀ b, (Value.slice ou m cu).ownBlock = some b → w2.heap.size ≤ b ∧ b < w3.heap.size) := fun b e => hO.lt b e
  have hs3 := hW3.size
  have hR03 : RowAt w3 w.heap.size 48 #[.int .i64 0, .int .i64 0, .slice none 0 0] := hR02.below hW3 (by omega)
  have hR3 : RowAt w3 (w.heap.size + 1) 48 (lcC kd nm (.slice none 0 0)) := hR2'.below hW3 (by omega)
  have hW3' : Below w.heap.size w w3 := hW2.trans (hW3.mono (by omega))
  have HR03 := hideT' hR03
  have HR3 := hideT' hR3
  clear hm hR02 hR2' hW3 hO hR03 hR3
  go_wp2_with fail
  go_loopg [23] m (fun gg i wr => ∃ (As Bs : List Lm) (z : Value) (ys : List Value), gg = Bs.length ∧ Hid (t.kids = As ++ Bs) ∧ i = .int .i64 (As.length : Int) ∧ RowAt wr (w.heap.size + 1) 48 (lcC kd nm z) ∧ Hid (wr.ownsRow w3.heap.size 48 3 z As.length ys ∧ LcsIn wr (fun x => w3.heap.size ≤ x ∧ z.ownBlock ≠ some x) As ys ∧ (∀ b, b < w3.heap.size → b ≠ w.heap.size + 1 → wr.heap[b]? = w3.heap[b]?)) ∧ w3.heap.size ≤ wr.heap.size ∧ Below w.heap.size w wr)
  case atStart => exact ⟨[], t.kids, .slice none 0 0, [], by rw [HM.out], rfl, rfl, HR3.out, ⟨⟨rfl, .inl ⟨rfl, rfl⟩⟩, rfl, fun _ _ _ => rfl⟩, Nat.le_refl _, hW3'⟩
  case round =>
    obtain ⟨As, Bs, z, ys, hgg, HA, rfl, hT, HO, hsr, hW⟩ := hrel
    obtain ⟨j, hj⟩ : ∃ j, j = As.length := ⟨_, rfl⟩
    obtain ⟨oz, cz, hzz⟩ := own_formT HO.out.1
    subst hzz
    rw [← hj] at hT HO ⊢
    have HJ := hideT' hj
    clear hj
    cases Bs with
    | nil =>
      have hjm : j = m := by rw [HJ.out, HM.out, HA.out]; simp
      have hnl : ¬ (j : Int) < (m : Int) := by omega
      have hR0r : RowAt wr w.heap.size 48 #[.int .i64 0, .int .i64 0, .slice none 0 0] := by unfold RowAt; rw [HO.out.2.2 w.heap.size (by omega) (by omega)]; exact HR03.out
      have HEK : Hid (t.kids = As) := by unfold Hid; have := HA.out; simpa using this
      clear hgg hjm
      go_wp2_with (first | (refine wpList_load_row rfl 48 _ rfl (w.heap.size + 1) rfl 48 (lcC kd nm (.slice oz j cz)) (0, 0) _ hT Tryd.underlying48 rfl zero_lcT.2 ?_) | (refine store_3 rfl 48 _ _ rfl rfl zero_lcT.2 w.heap.size (lcC kd nm (.slice oz j cz)) rfl (lcC_one _ _ _ rfl) rfl rfl _ rfl hR0r ?_; intro w5 hR5 hg5 hs5))
      refine bodyPost_ret (v := .agg (lcC kd nm (.slice oz j cz))) (results_cell_row Tryd.results27 _ _ w.heap.size 48 (lcC kd nm (.slice oz j cz)) (0, 0) _ rfl hR5 Tryd.underlying48 rfl zero_lcT.2) rfl ⟨⟨_, rfl, ?_⟩, hW.grown hg5 (by have := hW.size; omega) (by intro k hk; cases hk; omega)⟩
      have hst : ∀ b, w3.heap.size ≤ b → b < wr.heap.size → w5.heap[b]? = wr.heap[b]? := fun b h1 h2 => hg5.block b h2 (by intro e; injection e; omega)
      obtain ⟨hOw, hLs, _⟩ := HO.out
      refine LcIn.of_row (B := w3.heap.size) (ys := ys) (own_keep hOw (fun b hb => hst b (hOw.lt b hb).1 (hOw.lt b hb).2) |> fun h => by rw [HEK.out, ← HJ.out]; exact h) ?_ (fun b hb => by have := (hOw.lt b hb).1; omega)
      rw [HEK.out]
      exact LcsIn.keep (by omega) (fun x hx hl => hst x hx.1 hl) (fun x hx _ => by have := hx.1; omega) hLs
    | cons T Bs =>
      have hil : (j : Int) < (m : Int) := by rw [HM.out, HA.out, List.length_append, ← HJ.out]; simp; omega
      have hkj : t.kids[j]? = some T := by rw [HA.out, HJ.out]; simp
      obtain ⟨r, hrp, hsT, hshT⟩ := kid_seg HSEG.out.1 HSEG.out.2 j T hkj
      have hrl := hsT.lt
      have cpar : ∃ gu, ou = some ⟨gu, 0, none⟩ ∧ wr.cell? ⟨gu, j, none⟩ = some (.int .i64 (r : Int)) ∧ gu < wr.heap.size := by
        obtain ⟨o', cap', e', hin⟩ := HU.out
        have hjl : j < (natsI (t.kidsAt a)).length := by rw [natsI_len, kidsAt_len, ← HM.out]; omega
        obtain ⟨gu, ho, hgl, hcc⟩ := hin (by intro e; rw [e] at hjl; simp at hjl)
        cases e'
        have hub := HUB.out gu (by rw [ho]; rfl)
        refine ⟨gu, ho, ?_, by omega⟩
        rw [World.cell?_of_block (w := w3) (a := ⟨gu, j, none⟩) (HO.out.2.2 gu hub.2 (by omega))]
        have := hcc j 0 (.int .i64 (r : Int)) hjl (by
          have e1 : (natsI (t.kidsAt a)).getD j default = (r : Int) := by
            unfold natsI
            rw [List.getD, List.getElem?_map, hrp]; rfl
          rw [e1]; rfl)
        simpa using this
      obtain ⟨gu, hou, hcu, hgul⟩ := cpar
      subst hou
      have hNW : ∀ w', Below w.heap.size w w' → NdIn w' (.slice (some ⟨g, 0, none⟩) n cap) l := fun w' hB => by rw [HNN.out]; exact HV.out.below hB
      have HNW := hideT' hNW
      have hTs := Lm.kids_lt (List.mem_of_getElem? hkj)
      have HCALL : Hid (∀ w', NdIn w' (.slice (some ⟨g, 0, none⟩) n cap) l → Calls Tryd.prog 27 #[.slice (some ⟨g, 0, none⟩) n cap, .int .i64 (r : Int)] w' fun e w'' => (∃ z, e = .returned (.agg (lcC T.kd T.nm z)) ∧ LcIn w'' (fun x => w'.heap.size ≤ x) T z) ∧ Below w'.heap.size w' w'') := by
        intro w' hN'
        exact HIH.out T.sz (by have := HTN.out; omega) T (Nat.le_refl _) l r (a : Int) _ w' (by have := HNN.out; omega) hN' hsT hshT
      clear hNW hrp hsT hshT hkj
      go_wp2_with fail
      refine late_begin [8] (fun w' => RowAt w' (w.heap.size + 1) 48 (lcC kd nm (.slice oz j cz))) (by kernel_rfl) ?_
      have hS : RowAt wr.drew (w.heap.size + 1) 48 (lcC kd nm (.slice oz j cz)) := hT
      refine late_val 0 (some 27) rfl rfl (by kernel_rfl) (by kernel_rfl) (by kernel_rfl) [1, 6, 8] (by kernel_rfl) noPanic_put rfl (.pointer (some ⟨w.heap.size + 1, 2, none⟩)) (fun _ _ => by go_simp) hS ?_
      simp only [Act.put, List.setIfInBounds_toArray, List.set_cons_zero, List.set_cons_succ]
      refine late_val 1 (some 28) rfl rfl (by kernel_rfl) (by kernel_rfl) (by kernel_rfl) [6, 8] (by kernel_rfl) noPanic_put rfl (.slice oz j cz) (fun w' h => by have c : w'.cell? ⟨w.heap.size + 1, 2, none⟩ = some (.slice oz j cz) := (by rw [cell_of_row w' _ _ _ _ _ h]; rfl); go_simp) hS ?_
      simp only [Act.put, List.setIfInBounds_toArray, List.set_cons_zero, List.set_cons_succ]
      refine late_val 2 (some 29) rfl rfl (by kernel_rfl) (by kernel_rfl) (by kernel_rfl) [4, 5, 6, 8] (by kernel_rfl) noPanic_put rfl (.slice (some ⟨g, 0, none⟩) n cap) (fun _ _ => by go_simp) hS ?_
      simp only [Act.put, List.setIfInBounds_toArray, List.set_cons_zero, List.set_cons_succ]
      refine late_val 3 (some 30) rfl rfl (by kernel_rfl) (by kernel_rfl) (by kernel_rfl) [4, 5, 6, 8] (by kernel_rfl) noPanic_put rfl (.int .i64 (r : Int)) (fun _ _ => by go_simp) hS ?_
      simp only [Act.put, List.setIfInBounds_toArray, List.set_cons_zero, List.set_cons_succ]
      refine late_call 4 (some 31) (by kernel_rfl) rfl rfl rfl 27 #[.slice (some ⟨g, 0, none⟩) n cap, .int .i64 (r : Int)] (by go_simp) _ (HCALL.out wr.drew (HNW.out _ hW.drew)) ?_
      rintro e w5 ⟨⟨z1, rfl, hc1⟩, hW5⟩
      have hW5 : Below wr.heap.size wr w5 := ⟨hW5.os, hW5.tape, hW5.output, hW5.size, hW5.block⟩
      have hc1 : LcIn w5 (fun x => wr.heap.size ≤ x) T z1 := hc1
      have hs5 := hW5.size
      have hS1 : RowAt w5 (w.heap.size + 1) 48 (lcC kd nm (.slice oz j cz)) := RowAt.below hT hW5 (RowAt.lt hT)
      refine ⟨_, rfl, .inr hS1, ?_⟩
      simp only [Act.put, List.setIfInBounds_toArray, List.set_cons_zero, List.set_cons_succ]
      have hS2 : RowAt (w5.alloc (.cells (lcC T.kd T.nm z1) 48)) (w.heap.size + 1) 48 (lcC kd nm (.slice oz j cz)) := RowAt.old hS1 _
      refine late_ready 5 (some 32) (by kernel_rfl) rfl rfl rfl (.slice (some ⟨w5.heap.size, 0, none⟩) 1 1) (w5.alloc (.cells (lcC T.kd T.nm z1) 48)) (by unfold lcC; go_simp) (.inr hS2) ?_
      simp only [Act.put, List.setIfInBounds_toArray, List.set_cons_zero, List.set_cons_succ]
      have hO5 : w5.ownsRow w3.heap.size 48 3 (.slice oz j cz) j ys := own_keep HO.out.1 (fun b hb => hW5.block b (HO.out.1.lt b hb).2)
      obtain ⟨i0, hi, hzz0, hzz1, hzz2⟩ := info_parts info_lcT
      refine late_one 6 (by kernel_rfl) rfl rfl fun K hK => ?_
      refine append_own3_wp _ _ _ 46 rfl w3.heap.size 48 i0 (.agg #[.int .i64 0, .int .i64 0, .slice none 0 0]) 3 40 Tryd.underlying46 hi hzz0 hzz1 hzz2 rfl (by decide) (.slice oz j cz) j ys rfl (hO5.alloc _) ⟨w5.heap.size, 0, none⟩ 1 1 (lcL T.kd T.nm z1) rfl rfl (lc_cells w5 T.kd T.nm z1) (lcL_one _ _ _ hc1.one) (by omega) (by unfold maxLen; omega) (by omega) (by simp; omega) ?_
      intro v6 w6 hv6 hg6 hb6
      have hs6 := hg6.size
      simp only [World.size_alloc] at hs6 hb6
      have hnb : ∀ b, (Value.slice oz j cz).ownBlock = some b → w3.heap.size ≤ b ∧ b < wr.heap.size := fun b hb => HO.out.1.lt b hb
      have hS6 : RowAt w6 (w.heap.size + 1) 48 (lcC kd nm (.slice oz j cz)) := hS2.grown hg6 (fun e => by have := (hnb _ e.symm).1; omega)
      refine hK.out _ _ (.inr hS6) ?_
      simp only [Act.put, List.setIfInBounds_toArray]
      have hS := hS6
      refine late_val 7 (some 34) rfl rfl (by kernel_rfl) (by kernel_rfl) (by kernel_rfl) [8] (by kernel_rfl) noPanic_put rfl (.pointer (some ⟨w.heap.size + 1, 2, none⟩)) (fun _ _ => by go_simp) hS ?_
      simp only [Act.put]
      obtain ⟨o6, c6, rfl⟩ := own_formT hv6
      refine late_one 8 (by kernel_rfl) rfl rfl fun K8 hK8 => ?_
      refine store_at_wp 46 _ _ rfl rfl (w.heap.size + 1) 2 (.slice o6 (j + 1) c6) rfl rfl one_sllc rfl 48 (lcC kd nm (.slice oz j cz)) hS6 (show 2 < 3 by omega) ?_
      intro w7 hR7 hg7 hs7
      refine hK8.out _ _ (.inl ⟨8, by simp, rfl⟩) ?_
      refine late_done (by kernel_rfl) ?_ _
      refine NoPanic.normal ?_
      have hR7' : RowAt w7 (w.heap.size + 1) 48 (lcC kd nm (.slice o6 (j + 1) c6)) := hR7
      have hWsz := hW.size
      have hgx : ∀ b, b < w5.heap.size → b ≠ w.heap.size + 1 → (Value.slice oz j cz).ownBlock ≠ some b → w7.heap[b]? = w5.heap[b]? := fun b hb hbt hbo => by
        rw [hg7.block b (by omega) (by intro e; injection e; omega), hg6.block b (by simp; omega) (fun e => hbo e.symm), Below.heap_alloc _ _ _ hb]
      have hown6 : ∀ b, b < w5.heap.size → (Value.slice oz j cz).ownBlock ≠ some b → (Value.slice o6 (j + 1) c6).ownBlock ≠ some b := fun b hb hbo e => by
        rcases hb6 with h | h
        · exact hbo (by rw [← h]; exact e)
        · rw [h] at e
          injection e with e
          omega
      have HEND : Hid (w7.ownsRow w3.heap.size 48 3 (.slice o6 (j + 1) c6) (As ++ [T]).length (ys ++ lcL T.kd T.nm z1) ∧ LcsIn w7 (fun x => w3.heap.size ≤ x ∧ (Value.slice o6 (j + 1) c6).ownBlock ≠ some x) (As ++ [T]) (ys ++ lcL T.kd T.nm z1) ∧ (∀ b, b < w3.heap.size → b ≠ w.heap.size + 1 → w7.heap[b]? = w3.heap[b]?)) := by
        refine ⟨?_, LcsIn.snoc (LcIn.keep (by omega) (fun x hx hl => hgx x hl (by omega) (fun e => by have := (hnb x e).2; omega)) (fun x hx hl => ⟨by omega, hown6 x hl (fun e => by have := (hnb x e).2; omega)⟩) hc1) (LcsIn.keep (w := wr) (by omega) (fun x hx hl => by rw [hgx x (by omega) (by omega) hx.2]; exact hW5.block x hl) (fun x hx hl => ⟨hx.1, hown6 x (by omega) hx.2⟩) HO.out.2.1), fun b hb hbt => ?_⟩
        · rw [List.length_append, ← HJ.out]
          exact own_keep hv6 (fun b hb => hg7.block b (hv6.lt b hb).2 (by intro e; injection e with e; have := (hv6.lt b hb).1; omega))
        · rw [hgx b (by omega) hbt (fun e => by have := (hnb b e).1; omega), hW5.block b (by omega)]
          exact HO.out.2.2 b hb hbt
      have HA2 : Hid (t.kids = (As ++ [T]) ++ Bs) := by unfold Hid; rw [HA.out]; simp
      have hB7 : Below w.heap.size w w7 := (((hW.trans (hW5.mono (by omega))).alloc (by omega) _).grown hg6 (by simp; omega) (fun b hb => by have := (hnb b hb).1; omega)).grown hg7 (by omega) (by intro k hk; cases hk; omega)
      have hs7' : w3.heap.size ≤ w7.heap.size := by omega
      clear hgx hown6 HO hO5 hv6 hg6 hb6 hg7 hs7 hs6 hc1 hW5 hS1 hS2 hS6 hS hT hR7 hW hnb
      go_wp2
      go_roundg Bs.length
      case measure => rw [hgg]; simp
      case rel => exact ⟨As ++ [T], Bs, .slice o6 (j + 1) c6, ys ++ lcL T.kd T.nm z1, rfl, HA2, by rw [List.length_append, ← HJ.out]; go_num, hR7', HEND, hs7', hB7⟩
theorem lcTree_all : ∀ N, LcTreeC N := by
  intro N
  induction N using Nat.strongRecOn with
  | _ N IH => exact lcTree_step N IH
end Go.Proofs.YtgolfbjfopoeeaaDoor
