/-
  The texts DevelopS, Eval, Bring, EvalTop, SpecRun, SpecTop, PassT, one behind the other, as one.
-/
import Derived.Test.YtbnagagdboeedaaTailRunPassedC
import Derived.BigQuiet
import Derived.Test.YtbnagagdboeedaaTailRunPassedB

/-
  What lcRedex, lcFine and lcDevelop of the model answer.
-/
namespace Go.Proofs.Ytbnagagdboeedaa
open Go.RowKit BL
set_option linter.unusedVariables false

set_option maxHeartbeats 1000000 in
theorem lcFine_any (t : Lm) (z : Value) (P : Nat → Prop) (w : World) (hz : LcIn w P t z) : Calls Try.prog 87 #[.agg (lcC t.kd t.nm z)] w fun e w' => e = .returned (.bool t.good) ∧ Below w.heap.size w w' := by
  obtain ⟨oz, cz, rfl⟩ := hz.form
  obtain ⟨W, hWd⟩ : ∃ W, W = w.alloc (.cells #[.int .i64 t.kd, .int .i64 t.nm, .slice oz t.kids.length cz] 54) := ⟨_, rfl⟩
  have hB : Below w.heap.size w W := by rw [hWd]; exact (Below.refl _ _).alloc (Nat.le_refl _) _
  have HC := hideT' (lcTold_any t (.slice oz t.kids.length cz) P W (LcIn.below hB hz))
  have HB := hideT' hB
  unfold lcC at HC ⊢
  clear hz hB
  go_enter Try.func87, Try.ntmps87
  go_wp2_with fail
  rw [← hWd]
  refine HC.out.mono ?_
  rintro e w2 ⟨hT2, hB2⟩
  obtain ⟨u, rfl, _⟩ := hT2
  have HB2 : Hid (Below w.heap.size w w2) := HB.out.trans (hB2.mono HB.out.size)
  obtain ⟨q, hq⟩ : ∃ q, q = t.good := ⟨_, rfl⟩
  rw [← hq]
  have HQ := hideT' hq
  clear hB2 hq hWd
  go_wp2
  go_ret
  exact ⟨by rw [← HQ.out]; rfl, HB2.out⟩
set_option maxHeartbeats 1000000 in
theorem lcRedex_any (t : Lm) (z : Value) (P : Nat → Prop) (w : World) (hz : LcIn w P t z) : Calls Try.prog 99 #[.agg (lcC t.kd t.nm z)] w fun e w' => e = .returned (.bool t.isRed) ∧ Below w.heap.size w w' := by
  have hz0 := zero_lcT.1
  cases t with
  | var n =>
    obtain ⟨o, c, rfl⟩ := hz
    show Calls Try.prog 99 #[.agg #[.int .i64 1, .int .i64 n, .slice o 0 c]] w _
    go_enter Try.func99, Try.ntmps99
    go_wp2
    go_ret
    exact ⟨rfl, (Below.refl _ _).alloc (Nat.le_refl _) _⟩
  | lam s =>
    obtain ⟨oz, cz, rfl⟩ := hz.form
    clear hz
    show Calls Try.prog 99 #[.agg #[.int .i64 2, .int .i64 0, .slice oz 1 cz]] w _
    go_enter Try.func99, Try.ntmps99
    go_wp2
    go_ret
    exact ⟨rfl, (Below.refl _ _).alloc (Nat.le_refl _) _⟩
  | app s a =>
    obtain ⟨g, c, z1, z2, rfl, hg, ⟨c0, c1, c2⟩, _, _, _⟩ := hz
    have hgl := hg.1
    have hr : (Lm.app s a).isRed = (s.kd == 2) := by cases s <;> simp [Lm.isRed, Lm.isLam, Lm.kd]
    rw [hr]
    obtain ⟨k, hk⟩ : ∃ k, k = s.kd := ⟨_, rfl⟩
    rw [← hk] at c0 ⊢
    clear hk hr hg
    show Calls Try.prog 99 #[.agg #[.int .i64 3, .int .i64 0, .slice (some ⟨g, 0, none⟩) 2 c]] w _
    go_enter Try.func99, Try.ntmps99
    go_wp2
    go_ret
    exact ⟨rfl, (Below.refl _ _).alloc (Nat.le_refl _) _⟩
def LdvAns (P : Nat → Prop) (N : Nat) (r : Option Lm) (e : Ending) (w' : World) : Prop := match r with
  | none => ∃ k n o m c, e = .returned (.tuple #[.agg (lcC k n (.slice o m c)), .bool false])
  | some s => ∃ z, e = .returned (.tuple #[.agg (lcC s.kd s.nm z), .bool true]) ∧ LcIn w' (fun x => P x ∨ N ≤ x) s z
def LdvC (N : Nat) : Prop := ∀ (t : Lm), t.sz ≤ N → ∀ (z : Value) (P : Nat → Prop) (w : World), LcIn w P t z → t.ok = true →
    Calls Try.prog 62 #[.agg (lcC t.kd t.nm z)] w fun e w' => LdvAns P w.heap.size t.dev e w' ∧ Below w.heap.size w w'
set_option maxHeartbeats 8000000 in
set_option maxRecDepth 100000 in
theorem lcDevelop_step (N : Nat) (IH : ∀ n, n < N → LdvC n) : LdvC N := by
  intro t ht z P w hz hok
  have hz0 := zero_lcT.1
  obtain ⟨oz, cz, hzz⟩ := hz.form
  subst hzz
  have HZ := hideT' hz
  have HIH := hideT' IH
  have HTN := hideT' ht
  have HOK := hideT' hok
  obtain ⟨kd, hkd⟩ : ∃ kd, kd = t.kd := ⟨_, rfl⟩
  obtain ⟨nm, hnm⟩ : ∃ nm, nm = t.nm := ⟨_, rfl⟩
  obtain ⟨q, hq⟩ : ∃ q, q = t.kids.length := ⟨_, rfl⟩
  have hq2 : q ≤ 2 := by rw [hq]; cases t <;> simp [Lm.kids]
  rw [← hq] at HZ
  rw [← hkd, ← hnm, ← hq]
  have HKD := hideT' hkd
  have HNM := hideT' hnm
  have HQ := hideT' hq
  have HSZ : Hid (∀ s ∈ t.kids, s.sz < t.sz) := fun s hs => Lm.kids_lt hs
  obtain ⟨W, hWd⟩ : ∃ W, W = (w.alloc (.cells #[.int .i64 kd, .int .i64 nm, .slice oz q cz] 54)).alloc (.cells #[.int .i64 0, .int .i64 0, .slice none 0 0] 54) := ⟨_, rfl⟩
  have hBW : Below w.heap.size w W := by rw [hWd]; exact ((Below.refl _ _).alloc (Nat.le_refl _) _).alloc (by simp) _
  have hWs : w.heap.size + 2 = W.heap.size := by rw [hWd]; simp
  have hR0 : RowAt W w.heap.size 54 #[.int .i64 kd, .int .i64 nm, .slice oz q cz] := by rw [hWd]; exact RowAt.old (RowAt.new _ _ _) _
  have hR1 : RowAt W (w.heap.size + 1) 54 #[.int .i64 0, .int .i64 0, .slice none 0 0] := by
    rw [hWd]
    have := RowAt.new (w.alloc (.cells #[.int .i64 kd, .int .i64 nm, .slice oz q cz] 54)) 54 #[.int .i64 0, .int .i64 0, .slice none 0 0]
    rwa [World.size_alloc] at this
  obtain ⟨W3, hW3⟩ : ∃ W3, W3 = W.alloc (.cells #[.int .i64 kd, .int .i64 nm, .slice none 0 0] 54) := ⟨_, rfl⟩
  have hB3 : Below w.heap.size w W3 := by rw [hW3]; exact hBW.alloc (by omega) _
  have hs3 : W3.heap.size = w.heap.size + 3 := by rw [hW3, World.size_alloc]; omega
  have hRo : RowAt W3 (w.heap.size + 2) 54 (lcC kd nm (.slice none 0 0)) := by rw [hW3, hWs]; exact RowAt.new W _ _
  have HRR : Hid (RowAt W3 w.heap.size 54 #[.int .i64 kd, .int .i64 nm, .slice oz q cz] ∧ RowAt W3 (w.heap.size + 1) 54 #[.int .i64 0, .int .i64 0, .slice none 0 0]) := by rw [hW3]; exact ⟨RowAt.old hR0 _, RowAt.old hR1 _⟩
  have HOS := hideT' (OutZ.start (P := fun x => P x ∧ x < w.heap.size) hRo)
  have HB3 := hideT' hB3
  have HS3 := hideT' hs3
  unfold lcC
  obtain ⟨i0, hi, hzz0, hzz1, hzz2⟩ := info_parts info_lcT
  clear IH ht hz hok hkd hnm hq hR0 hR1 hBW hWs hB3 hs3 hRo
  go_enter Try.func62, Try.ntmps62
  go_wp2_with fail
  rw [← hWd, ← hW3]
  go_loopg [17] q (fun gg i wr => ∃ (As Bs ds : List Lm) (z : Value) (ys : List Value), gg = Bs.length ∧ Hid (t.kids = As ++ Bs ∧ As.map Lm.dev = ds.map some) ∧ i = .int .i64 (As.length : Int) ∧ Hid (OutZ W3 wr (w.heap.size + 2) kd nm (fun x => P x ∧ x < w.heap.size) ds z ys) ∧ Hid (Below w.heap.size w wr))
  case atStart => exact ⟨[], t.kids, [], .slice none 0 0, [], by rw [HQ.out], ⟨rfl, rfl⟩, rfl, HOS, HB3⟩
  case round =>
    obtain ⟨As, Bs, ds, z, ys, hgg, HA, rfl, HO, HB⟩ := hrel
    obtain ⟨j, hj⟩ : ∃ j, j = As.length := ⟨_, rfl⟩
    obtain ⟨ox, cx, hzx⟩ := own_formT HO.out.own
    have hdl : As.length = ds.length := by have := congrArg List.length HA.out.2; simpa using this
    have HDL := hideT' hdl
    rw [← hdl, ← hj] at hzx
    clear hdl
    subst hzx
    rw [← hj]
    have HJ := hideT' hj
    clear hj
    have hRt : RowAt wr w.heap.size 54 #[.int .i64 kd, .int .i64 nm, .slice oz q cz] := HO.out.rowOf (by omega) HRR.out.1
    have hRz : RowAt wr (w.heap.size + 1) 54 #[.int .i64 0, .int .i64 0, .slice none 0 0] := HO.out.rowOf (by omega) HRR.out.2
    have hRo : RowAt wr (w.heap.size + 2) 54 (lcC kd nm (.slice ox j cx)) := HO.out.row
    have hws : w.heap.size + 2 < wr.heap.size := hRo.lt
    cases Bs with
    | nil =>
      have hjm : j = q := by rw [HJ.out, HQ.out, HA.out.1]; simp
      have hnl : ¬ (j : Int) < (q : Int) := by omega
      have hka : t.kids.map Lm.dev = ds.map some := by rw [HA.out.1, List.append_nil]; exact HA.out.2
      obtain ⟨oo, ho1, ho2, ho3, ho4, ho5⟩ := dev_all hka
      obtain ⟨hn1, hn2, hn3⟩ := nodeOf_kids ho1
      have HOO := hideT' (And.intro ho2 (And.intro ho3 (And.intro (ho4 HOK.out) (And.intro ho5 (And.intro (hn2.trans HKD.out.symm) (hn3.trans HNM.out.symm))))))
      have hzo : LcIn wr (fun x => (P x ∧ x < w.heap.size) ∨ W3.heap.size ≤ x) oo (.slice ox j cx) := by
        have ho := HO.out
        rw [← hn1] at ho
        exact LcIn.mono (fun x hx _ => hx.imp (fun h => h.1) id) ho.done
      have HZO := hideT' hzo
      have hol : oo.kids.length = j := by rw [hn1, ← HDL.out, HJ.out]
      have HOL := hideT' hol
      have HCR := hideT' (lcRedex_any t (.slice oz q cz) (fun b => P b ∧ b < w.heap.size) wr (LcIn.keep (w := w) HB.out.size (fun x hx hl => HB.out.block x hl) (fun x hx hl => ⟨hx, hl⟩) HZ.out))
      obtain ⟨rr, hrr⟩ : ∃ rr, rr = t.isRed := ⟨_, rfl⟩
      rw [← hrr, ← HKD.out, ← HNM.out] at HCR
      have HRR2 := hideT' hrr
      unfold lcC at HCR
      have HRW := hideT' (And.intro hRt (And.intro hRz hRo))
      clear hgg hjm hka ho1 ho2 ho3 ho4 ho5 hn1 hn2 hn3 hzo hol hrr hRt hRz hRo
      go_wp2_with (refine wpList_load_row rfl 54 _ rfl w.heap.size rfl 54 #[.int .i64 kd, .int .i64 nm, .slice oz q cz] (0, 0) _ HRW.out.1 Try.underlying54 rfl zero_lcT.2 ?_)
      refine HCR.out.mono ?_
      rintro e wv ⟨rfl, hBv⟩
      have hsv := hBv.size
      have HRv := hideT' (And.intro (HRW.out.2.1.below hBv HRW.out.2.1.lt) (HRW.out.2.2.below hBv HRW.out.2.2.lt))
      have HBv : Hid (Below w.heap.size w wv) := HB.out.trans (hBv.mono HB.out.size)
      have HZv : Hid (LcIn wv (fun x => (P x ∧ x < w.heap.size) ∨ W3.heap.size ≤ x) oo (.slice ox j cx)) := LcIn.below hBv HZO.out
      clear hBv
      cases rr with
      | true =>
        have HCB := hideT' (lcBeta_any oo (.slice ox j cx) _ wv HZv.out (HOO.out.2.1 HRR2.out.symm) (by have := HOO.out.2.2.2.1; omega) HOO.out.2.2.1)
        rw [HOO.out.2.2.2.2.1, HOO.out.2.2.2.2.2] at HCB
        obtain ⟨X, hX⟩ : ∃ X, X = oo.beta := ⟨_, rfl⟩
        rw [← hX] at HCB
        obtain ⟨gd, hgd⟩ : ∃ gd, gd = X.good := ⟨_, rfl⟩
        have HE : Hid (t.dev = if gd then some X else none) := by unfold Hid; rw [HOO.out.1, devEnd_chk, ← HRR2.out]; simp only [if_true]; rw [← hX, ← hgd]
        have HGD := hideT' hgd
        unfold lcC at HCB
        clear hX hgd
        go_wp2_with (refine wpList_load_row rfl 54 _ rfl (w.heap.size + 2) rfl 54 #[.int .i64 kd, .int .i64 nm, .slice ox j cx] (0, 0) _ HRv.out.2 Try.underlying54 rfl zero_lcT.2 ?_)
        refine HCB.out.mono ?_
        rintro e wb ⟨⟨zb, rfl, hzb⟩, hBb⟩
        obtain ⟨oy, cy, hzzb⟩ := hzb.form
        subst hzzb
        have hsb := hBb.size
        obtain ⟨kx, hkx⟩ : ∃ kx, kx = X.kd := ⟨_, rfl⟩
        obtain ⟨nx, hnx⟩ : ∃ nx, nx = X.nm := ⟨_, rfl⟩
        obtain ⟨lx, hlx⟩ : ∃ lx, lx = X.kids.length := ⟨_, rfl⟩
        rw [← hlx] at hzb
        rw [← hkx, ← hnx, ← hlx]
        have HX : Hid (X.kd = kx ∧ X.nm = nx ∧ X.kids.length = lx) := ⟨hkx.symm, hnx.symm, hlx.symm⟩
        have HRb := hideT' (And.intro (HRv.out.1.below hBb HRv.out.1.lt) (HRv.out.2.below hBb HRv.out.2.lt))
        have HZb := hideT' hzb
        have HBb : Hid (Below w.heap.size w wb) := HBv.out.trans (hBb.mono HBv.out.size)
        clear hzb hBb hkx hnx hlx
        go_wp2_with (refine store_3 rfl 54 _ _ rfl rfl zero_lcT.2 (w.heap.size + 2) (lcC kx nx (.slice oy lx cy)) rfl (lcC_one _ _ _ rfl) rfl rfl _ rfl HRb.out.2 ?_; intro wy hRy hgy hsy; refine Hid.out ?_)
        unfold Hid
        have hs3 := HS3.out
        have HRY := hideT' hRy
        have HRZY : Hid (RowAt wy (w.heap.size + 1) 54 #[.int .i64 0, .int .i64 0, .slice none 0 0]) := HRb.out.1.grown hgy (by intro e; injection e; omega)
        have HZY : Hid (LcIn wy (fun x => (P x ∧ x < w.heap.size) ∨ W3.heap.size ≤ x) X (.slice oy lx cy)) := LcIn.keep (w := wb) (by omega) (fun x hx hl => hgy.block x hl (by intro e; injection e with e; have := HB.out.size; rcases hx with (hx | hx) | hx <;> omega)) (fun x hx _ => by rcases hx with (hx | hx) | hx; exact .inl hx; exact .inr hx; exact .inr (by have := HO.out.size; omega)) HZb.out
        have HBY : Hid (Below w.heap.size w wy) := HBb.out.grown hgy (by have := HBb.out.size; omega) (by intro k hk; cases hk; omega)
        have HFI : Hid (∀ w', Below wy.heap.size wy w' → Calls Try.prog 87 #[.agg (lcC kx nx (.slice oy lx cy))] w' fun e w'' => e = .returned (.bool gd) ∧ Below w'.heap.size w' w'') := fun w' hw' => by
          have := lcFine_any X (.slice oy lx cy) _ w' (LcIn.below hw' HZY.out)
          rw [HX.out.1, HX.out.2.1, ← HGD.out] at this
          exact this
        have hwy : w.heap.size + 2 < wy.heap.size := hRy.lt
        clear hRy hgy hsy hs3
        go_wp2_with fail
        refine held_begin (fun w' => RowAt w' (w.heap.size + 2) 54 (lcC kx nx (.slice oy lx cy))) (by kernel_rfl) ?_
        have hS : RowAt wy.drew (w.heap.size + 2) 54 (lcC kx nx (.slice oy lx cy)) := HRY.out
        refine held_valS 0 (some 40) rfl rfl (by kernel_rfl) (by kernel_rfl) (by kernel_rfl) noPanic_put rfl (.agg (lcC kx nx (.slice oy lx cy))) (fun w' h => by unfold lcC; have q0 : w'.cell? ⟨w.heap.size + 2, 0, none⟩ = some (.int .i64 kx) := (by rw [cell_of_row w' _ _ _ _ _ h]; rfl); have q1 : w'.cell? ⟨w.heap.size + 2, 1, none⟩ = some (.int .i64 nx) := (by rw [cell_of_row w' _ _ _ _ _ h]; rfl); have q2 : w'.cell? ⟨w.heap.size + 2, 2, none⟩ = some (.slice oy lx cy) := (by rw [cell_of_row w' _ _ _ _ _ h]; rfl); go_simp) hS ?_
        simp only [Act.put, List.setIfInBounds_toArray, List.set_cons_zero, List.set_cons_succ]
        refine held_valS 1 (some 41) rfl rfl (by kernel_rfl) (by kernel_rfl) (by kernel_rfl) noPanic_put rfl (.agg (lcC kx nx (.slice oy lx cy))) (fun w' h => by unfold lcC; have q0 : w'.cell? ⟨w.heap.size + 2, 0, none⟩ = some (.int .i64 kx) := (by rw [cell_of_row w' _ _ _ _ _ h]; rfl); have q1 : w'.cell? ⟨w.heap.size + 2, 1, none⟩ = some (.int .i64 nx) := (by rw [cell_of_row w' _ _ _ _ _ h]; rfl); have q2 : w'.cell? ⟨w.heap.size + 2, 2, none⟩ = some (.slice oy lx cy) := (by rw [cell_of_row w' _ _ _ _ _ h]; rfl); go_simp) hS ?_
        simp only [Act.put, List.setIfInBounds_toArray, List.set_cons_zero, List.set_cons_succ]
        refine held_call 2 (some 42) (by kernel_rfl) rfl rfl rfl 87 #[.agg (lcC kx nx (.slice oy lx cy))] (by go_simp) _ (HFI.out wy.drew (Below.refl _ _).drew) ?_
        rintro e wz ⟨rfl, hwz⟩
        have hwz : Below wy.heap.size wy wz := ⟨hwz.os, hwz.tape, hwz.output, hwz.size, hwz.block⟩
        have hsz := hwz.size
        have hS5 : RowAt wz (w.heap.size + 2) 54 (lcC kx nx (.slice oy lx cy)) := HRY.out.below hwz HRY.out.lt
        refine ⟨_, rfl, hS5, ?_⟩
        simp only [Act.put, List.setIfInBounds_toArray, List.set_cons_zero, List.set_cons_succ]
        have hRz9 : RowAt wz (w.heap.size + 1) 54 #[.int .i64 0, .int .i64 0, .slice none 0 0] := HRZY.out.below hwz HRZY.out.lt
        refine held_one 3 (by kernel_rfl) rfl rfl ?_
        intro K hK
        refine store_3_wp 54 (.tmp 2) (.tmp 40) rfl rfl zero_lcT.2 (w.heap.size + 1) (lcC kx nx (.slice oy lx cy)) rfl (lcC_one _ _ _ rfl) rfl rfl #[.int .i64 0, .int .i64 0, .slice none 0 0] rfl hRz9 ?_
        intro wu hRu hgu hsu
        have hSu : RowAt wu (w.heap.size + 2) 54 (lcC kx nx (.slice oy lx cy)) := hS5.grown hgu (by intro e; injection e; omega)
        refine hK.out _ _ hSu ?_
        refine held_assign 4 (some 3) (by kernel_rfl) rfl rfl _ rfl rfl (.bool gd) rfl hSu ?_
        simp only [Act.put, List.setIfInBounds_toArray, List.set_cons_zero, List.set_cons_succ]
        refine wpAnyH_done (by kernel_rfl) ?_ _
        refine NoPanic.normal ?_
        have HF : Hid (LcIn wu (fun x => P x ∨ w.heap.size ≤ x) X (.slice oy lx cy) ∧ RowAt wu (w.heap.size + 1) 54 (lcC kx nx (.slice oy lx cy)) ∧ Below w.heap.size w wu) := by
          have hs3 := HS3.out
          refine ⟨LcIn.keep (w := wz) (by omega) (fun x hx hl => hgu.block x hl (by intro e; injection e with e; rcases hx with hx | hx <;> omega)) (fun x hx _ => by rcases hx with hx | hx; exact .inl hx.1; exact .inr (by omega)) (LcIn.below hwz HZY.out), hRu, (HBY.out.trans (hwz.mono HBY.out.size)).grown hgu (by have := HBY.out.size; omega) (by intro k hk; cases hk; omega)⟩
        clear hK hS hS5 hSu hRz9 hRu hgu hsu hwz
        go_wp2
        refine bodyPost_ret (v := .tuple #[.agg (lcC kx nx (.slice oy lx cy)), .bool gd]) (res_lc_tmp Try.results62 _ _ (w.heap.size + 1) kx nx (.slice oy lx cy) (.bool gd) rfl rfl HF.out.2.1) rfl ⟨?_, HF.out.2.2⟩
        rw [HE.out]
        cases gd with
        | true => exact ⟨.slice oy lx cy, by rw [HX.out.1, HX.out.2.1], HF.out.1⟩
        | false => exact ⟨_, _, _, _, _, rfl⟩
      | false =>
        obtain ⟨X, hX⟩ : ∃ X, X = oo := ⟨_, rfl⟩
        obtain ⟨gd, hgd⟩ : ∃ gd, gd = X.good := ⟨_, rfl⟩
        have HE : Hid (t.dev = if gd then some X else none) := by unfold Hid; rw [HOO.out.1, devEnd_chk, ← HRR2.out]; simp only [Bool.false_eq_true, if_false]; rw [← hX, ← hgd]
        have HGD := hideT' hgd
        rw [← hX] at HZv HOO HOL
        obtain ⟨kx, hkx⟩ : ∃ kx, kx = kd := ⟨_, rfl⟩
        obtain ⟨nx, hnx⟩ : ∃ nx, nx = nm := ⟨_, rfl⟩
        obtain ⟨lx, hlx⟩ : ∃ lx, lx = j := ⟨_, rfl⟩
        obtain ⟨oy, hoy⟩ : ∃ oy, oy = ox := ⟨_, rfl⟩
        obtain ⟨cy, hcy⟩ : ∃ cy, cy = cx := ⟨_, rfl⟩
        obtain ⟨wy, hwye⟩ : ∃ wy, wy = wv := ⟨_, rfl⟩
        have HX : Hid (X.kd = kx ∧ X.nm = nx ∧ X.kids.length = lx) := ⟨by rw [hkx]; exact HOO.out.2.2.2.2.1, by rw [hnx]; exact HOO.out.2.2.2.2.2, by rw [hlx]; exact HOL.out⟩
        have HRY : Hid (RowAt wy (w.heap.size + 2) 54 (lcC kx nx (.slice oy lx cy))) := by unfold Hid; rw [hwye, hkx, hnx, hlx, hoy, hcy]; exact HRv.out.2
        have HRZY : Hid (RowAt wy (w.heap.size + 1) 54 #[.int .i64 0, .int .i64 0, .slice none 0 0]) := by unfold Hid; rw [hwye]; exact HRv.out.1
        have HZY : Hid (LcIn wy (fun x => (P x ∧ x < w.heap.size) ∨ W3.heap.size ≤ x) X (.slice oy lx cy)) := by unfold Hid; rw [hwye, hlx, hoy, hcy]; exact HZv.out
        have HBY : Hid (Below w.heap.size w wy) := by unfold Hid; rw [hwye]; exact HBv.out
        have hs3 := HS3.out
        have HFI : Hid (∀ w', Below wy.heap.size wy w' → Calls Try.prog 87 #[.agg (lcC kx nx (.slice oy lx cy))] w' fun e w'' => e = .returned (.bool gd) ∧ Below w'.heap.size w' w'') := fun w' hw' => by
          have := lcFine_any X (.slice oy lx cy) _ w' (LcIn.below hw' HZY.out)
          rw [HX.out.1, HX.out.2.1, ← HGD.out] at this
          exact this
        have hwy : w.heap.size + 2 < wy.heap.size := HRY.out.lt
        rw [← hwye]
        clear hX hgd hkx hnx hlx hoy hcy hwye hs3
        go_wp2_with fail
        refine held_begin (fun w' => RowAt w' (w.heap.size + 2) 54 (lcC kx nx (.slice oy lx cy))) (by kernel_rfl) ?_
        have hS : RowAt wy.drew (w.heap.size + 2) 54 (lcC kx nx (.slice oy lx cy)) := HRY.out
        refine held_valS 0 (some 40) rfl rfl (by kernel_rfl) (by kernel_rfl) (by kernel_rfl) noPanic_put rfl (.agg (lcC kx nx (.slice oy lx cy))) (fun w' h => by unfold lcC; have q0 : w'.cell? ⟨w.heap.size + 2, 0, none⟩ = some (.int .i64 kx) := (by rw [cell_of_row w' _ _ _ _ _ h]; rfl); have q1 : w'.cell? ⟨w.heap.size + 2, 1, none⟩ = some (.int .i64 nx) := (by rw [cell_of_row w' _ _ _ _ _ h]; rfl); have q2 : w'.cell? ⟨w.heap.size + 2, 2, none⟩ = some (.slice oy lx cy) := (by rw [cell_of_row w' _ _ _ _ _ h]; rfl); go_simp) hS ?_
        simp only [Act.put, List.setIfInBounds_toArray, List.set_cons_zero, List.set_cons_succ]
        refine held_valS 1 (some 41) rfl rfl (by kernel_rfl) (by kernel_rfl) (by kernel_rfl) noPanic_put rfl (.agg (lcC kx nx (.slice oy lx cy))) (fun w' h => by unfold lcC; have q0 : w'.cell? ⟨w.heap.size + 2, 0, none⟩ = some (.int .i64 kx) := (by rw [cell_of_row w' _ _ _ _ _ h]; rfl); have q1 : w'.cell? ⟨w.heap.size + 2, 1, none⟩ = some (.int .i64 nx) := (by rw [cell_of_row w' _ _ _ _ _ h]; rfl); have q2 : w'.cell? ⟨w.heap.size + 2, 2, none⟩ = some (.slice oy lx cy) := (by rw [cell_of_row w' _ _ _ _ _ h]; rfl); go_simp) hS ?_
        simp only [Act.put, List.setIfInBounds_toArray, List.set_cons_zero, List.set_cons_succ]
        refine held_call 2 (some 42) (by kernel_rfl) rfl rfl rfl 87 #[.agg (lcC kx nx (.slice oy lx cy))] (by go_simp) _ (HFI.out wy.drew (Below.refl _ _).drew) ?_
        rintro e wz ⟨rfl, hwz⟩
        have hwz : Below wy.heap.size wy wz := ⟨hwz.os, hwz.tape, hwz.output, hwz.size, hwz.block⟩
        have hsz := hwz.size
        have hS5 : RowAt wz (w.heap.size + 2) 54 (lcC kx nx (.slice oy lx cy)) := HRY.out.below hwz HRY.out.lt
        refine ⟨_, rfl, hS5, ?_⟩
        simp only [Act.put, List.setIfInBounds_toArray, List.set_cons_zero, List.set_cons_succ]
        have hRz9 : RowAt wz (w.heap.size + 1) 54 #[.int .i64 0, .int .i64 0, .slice none 0 0] := HRZY.out.below hwz HRZY.out.lt
        refine held_one 3 (by kernel_rfl) rfl rfl ?_
        intro K hK
        refine store_3_wp 54 (.tmp 2) (.tmp 40) rfl rfl zero_lcT.2 (w.heap.size + 1) (lcC kx nx (.slice oy lx cy)) rfl (lcC_one _ _ _ rfl) rfl rfl #[.int .i64 0, .int .i64 0, .slice none 0 0] rfl hRz9 ?_
        intro wu hRu hgu hsu
        have hSu : RowAt wu (w.heap.size + 2) 54 (lcC kx nx (.slice oy lx cy)) := hS5.grown hgu (by intro e; injection e; omega)
        refine hK.out _ _ hSu ?_
        refine held_assign 4 (some 3) (by kernel_rfl) rfl rfl _ rfl rfl (.bool gd) rfl hSu ?_
        simp only [Act.put, List.setIfInBounds_toArray, List.set_cons_zero, List.set_cons_succ]
        refine wpAnyH_done (by kernel_rfl) ?_ _
        refine NoPanic.normal ?_
        have HF : Hid (LcIn wu (fun x => P x ∨ w.heap.size ≤ x) X (.slice oy lx cy) ∧ RowAt wu (w.heap.size + 1) 54 (lcC kx nx (.slice oy lx cy)) ∧ Below w.heap.size w wu) := by
          have hs3 := HS3.out
          refine ⟨LcIn.keep (w := wz) (by omega) (fun x hx hl => hgu.block x hl (by intro e; injection e with e; rcases hx with hx | hx <;> omega)) (fun x hx _ => by rcases hx with hx | hx; exact .inl hx.1; exact .inr (by omega)) (LcIn.below hwz HZY.out), hRu, (HBY.out.trans (hwz.mono HBY.out.size)).grown hgu (by have := HBY.out.size; omega) (by intro k hk; cases hk; omega)⟩
        clear hK hS hS5 hSu hRz9 hRu hgu hsu hwz
        go_wp2
        refine bodyPost_ret (v := .tuple #[.agg (lcC kx nx (.slice oy lx cy)), .bool gd]) (res_lc_tmp Try.results62 _ _ (w.heap.size + 1) kx nx (.slice oy lx cy) (.bool gd) rfl rfl HF.out.2.1) rfl ⟨?_, HF.out.2.2⟩
        rw [HE.out]
        cases gd with
        | true => exact ⟨.slice oy lx cy, by rw [HX.out.1, HX.out.2.1], HF.out.1⟩
        | false => exact ⟨_, _, _, _, _, rfl⟩
    | cons T Bs =>
      have hil : (j : Int) < (q : Int) := by rw [HQ.out, HA.out.1, List.length_append, ← HJ.out]; simp; omega
      have hkj : t.kids[j]? = some T := by rw [HA.out.1, HJ.out]; simp
      have hTm : T ∈ t.kids := List.mem_of_getElem? hkj
      have hzr : LcIn wr (fun b => P b ∧ b < w.heap.size) t (.slice oz q cz) := LcIn.keep (w := w) HB.out.size (fun x hx hl => HB.out.block x hl) (fun x hx hl => ⟨hx, hl⟩) HZ.out
      obtain ⟨o', c', e', hpart⟩ := hzr.parts
      injection e' with e1 e2 e3
      subst e1
      clear e2 e3
      obtain ⟨g, z1, hoz, hg, ⟨k0, k1, k2⟩, hz1⟩ := hpart j T hkj
      subst hoz
      have hg1 := hg.1
      obtain ⟨oz1, cz1, hzz1'⟩ := hz1.form
      subst hzz1'
      obtain ⟨W2, hW2⟩ : ∃ W2, W2 = wr.alloc (.cells #[.int .i64 T.kd, .int .i64 T.nm, .slice oz1 T.kids.length cz1] 54) := ⟨_, rfl⟩
      have hB2 : Below wr.heap.size wr W2 := by rw [hW2]; exact (Below.refl _ _).alloc (Nat.le_refl _) _
      have hz2 : LcIn W2 (fun b => P b ∧ b < w.heap.size) T (.slice oz1 T.kids.length cz1) := LcIn.below hB2 hz1
      have hTs := HSZ.out T hTm
      have HCALL := hideT' (HIH.out T.sz (by have := HTN.out; omega) T (Nat.le_refl _) (.slice oz1 T.kids.length cz1) _ W2 hz2 (ok_kid HOK.out hTm))
      have HB2 := hideT' hB2
      have hs2 : W2.heap.size = wr.heap.size + 1 := by rw [hW2]; simp
      have HS2 := hideT' hs2
      have HRS := hideT' (And.intro hRt (And.intro hRz hRo))
      have HTM := hideT' hTm
      unfold lcC at HCALL
      clear hzr hpart hz1 hz2 hB2 hkj hTm hRt hRz hRo hTs hs2
      go_wp2_with fail
      rw [← hW2]
      refine HCALL.out.mono ?_
      rintro e w9 ⟨hout, hB9⟩
      have hB29 : Below wr.heap.size wr w9 := HB2.out.trans (hB9.mono HB2.out.size)
      have hO9 := HO.out.below hB29
      have hs9 := hB9.size
      have hsw9 : w.heap.size + 2 < w9.heap.size := by have := HS2.out; omega
      have HB9 : Hid (Below w.heap.size w w9) := HB.out.trans (hB29.mono HB.out.size)
      have HRT9 := hideT' (HRS.out.1.below hB29 (by omega))
      have HRZ9 := hideT' (HRS.out.2.1.below hB29 (by omega))
      have r0 : w9.cell? ⟨w.heap.size, 0, none⟩ = some (.int .i64 kd) := by rw [cell_of_row _ _ _ _ _ _ HRT9.out]; rfl
      have r1 : w9.cell? ⟨w.heap.size, 1, none⟩ = some (.int .i64 nm) := by rw [cell_of_row _ _ _ _ _ _ HRT9.out]; rfl
      have r2 : w9.cell? ⟨w.heap.size, 2, none⟩ = some (.slice (some ⟨g, 0, none⟩) q cz) := by rw [cell_of_row _ _ _ _ _ _ HRT9.out]; rfl
      clear k0 k1 k2 hW2
      cases hdv : T.dev with
      | some D =>
        rw [hdv] at hout
        obtain ⟨z9, rfl, hz9⟩ := hout
        have hok := hdv
        obtain ⟨o9, c9, hzz9⟩ := hz9.form
        subst hzz9
        have hp9 : LcIn w9 (OutP W3 (w.heap.size + 2) (fun x => P x ∧ x < w.heap.size) (.slice ox j cx)) D (.slice o9 D.kids.length c9) := HO.out.part (Nat.le_refl _) hz9 (fun x hx _ => by rcases hx with hx | hx; exact .inl ⟨hx, by omega⟩; exact .inr (by have := HS2.out; omega))
        obtain ⟨k9, hk9⟩ : ∃ k9, k9 = D.kd := ⟨_, rfl⟩
        obtain ⟨n9, hn9⟩ : ∃ n9, n9 = D.nm := ⟨_, rfl⟩
        obtain ⟨l9, hl9⟩ : ∃ l9, l9 = D.kids.length := ⟨_, rfl⟩
        rw [← hl9] at hp9
        rw [← hk9, ← hn9, ← hl9]
        have hOX := hO9.below ((Below.refl _ _).alloc (Nat.le_refl _) (.cells #[.int .i64 k9, .int .i64 n9, .slice o9 l9 c9] 54))
        have hpX := LcIn.below ((Below.refl w9.heap.size w9).alloc (Nat.le_refl _) (.cells #[.int .i64 k9, .int .i64 n9, .slice o9 l9 c9] 54)) hp9
        have hRX := hOX.row
        have r3 : w9.cell? ⟨w.heap.size + 2, 2, none⟩ = some (.slice ox j cx) := by rw [cell_of_row _ _ _ _ _ _ hO9.row]; rfl
        have HOX := hideT' hOX
        have HPX := hideT' hpX
        have HN9 := hideT' (And.intro hk9 (And.intro hn9 hok))
        have HLC : Hid (∀ jj uu, (lcL k9 n9 (.slice o9 l9 c9))[jj]? = some uu → ((w9.alloc (.cells #[.int .i64 k9, .int .i64 n9, .slice o9 l9 c9] 54)).alloc (.cells #[.int .i64 k9, .int .i64 n9, .slice o9 l9 c9] 54)).cell? ((⟨w9.heap.size + 1, 0, none⟩ : Addr).add jj) = some uu) := by
          have := lc_cells (w9.alloc (.cells #[.int .i64 k9, .int .i64 n9, .slice o9 l9 c9] 54)) k9 n9 (.slice o9 l9 c9)
          rw [World.size_alloc] at this
          exact this
        have hown : (w9.alloc (.cells #[.int .i64 k9, .int .i64 n9, .slice o9 l9 c9] 54)).ownsRow W3.heap.size 54 3 (.slice ox j cx) j ys := by have := hOX.own; rwa [← HDL.out, ← HJ.out] at this
        have HOWN := hideT' hown
        have hb3 : W3.heap.size ≤ w9.heap.size := by have := HO.out.size; have := HS2.out; omega
        have HROW : Hid (RowAt ((w9.alloc (.cells #[.int .i64 k9, .int .i64 n9, .slice o9 l9 c9] 54)).alloc (.cells #[.int .i64 k9, .int .i64 n9, .slice o9 l9 c9] 54)) (w.heap.size + 2) 54 (lcC kd nm (.slice ox j cx))) := RowAt.old hRX _
        have HNB : Hid (∀ b, (Value.slice ox j cx).ownBlock = some b → W3.heap.size ≤ b) := fun b e => (hown.lt b e).1
        clear hk9 hn9 hl9 hok hdv hOX hpX hRX hO9 hz9 hp9 hown hB9 hB29
        unfold lcC
        go_wp2_with (first | (at_builtin; refine append_own3 _ rfl _ _ 52 rfl W3.heap.size 54 i0 (.agg #[.int .i64 0, .int .i64 0, .slice none 0 0]) 3 40 Try.underlying52 hi hzz0 hzz1 hzz2 rfl (by decide) (.slice ox j cx) j ys rfl (HOWN.out.alloc _) ⟨w9.heap.size + 1, 0, none⟩ 1 1 (lcL k9 n9 (.slice o9 l9 c9)) rfl rfl HLC.out (lcL_one _ _ _ rfl) (by omega) (by unfold maxLen; omega) (by omega) (by simp; omega) ?_; intro v6 w6 hv6 hg6 hb6; obtain ⟨o6, c6, hv6e⟩ := own_formT hv6; subst hv6e; have hR6 : RowAt w6 (w.heap.size + 2) 54 (lcC kd nm (.slice ox j cx)) := HROW.out.grown hg6 (fun e => by have := HNB.out _ e.symm; have := HS3.out; omega); have HV6 := hideT' hv6; have HG6 := hideT' hg6; have HB6 := hideT' hb6; clear hv6 hg6 hb6) | (refine store_at rfl 52 _ _ rfl rfl (w.heap.size + 2) 2 (.slice o6 (j + 1) c6) rfl rfl one_sllc rfl 54 (lcC kd nm (.slice ox j cx)) hR6 (show 2 < 3 by omega) ?_; intro w7 hR7 hg7 hs7))
        have HEND : Hid (OutZ W3 w7 (w.heap.size + 2) kd nm (fun x => P x ∧ x < w.heap.size) (ds ++ [D]) (.slice o6 (j + 1) c6) (ys ++ lcL D.kd D.nm (.slice o9 l9 c9))) := by
          unfold Hid
          refine OutZ.push HOX.out HPX.out ?_ HG6.out HB6.out hR7 hg7
          rw [← HDL.out, ← HJ.out, ← HN9.out.1, ← HN9.out.2.1]
          exact HV6.out
        have HA2 : Hid (t.kids = (As ++ [T]) ++ Bs ∧ (As ++ [T]).map Lm.dev = (ds ++ [D]).map some) := ⟨by rw [HA.out.1]; simp, by rw [List.map_append, HA.out.2]; simp [HN9.out.2.2]⟩
        have HB7 : Hid (Below w.heap.size w w7) := ((HB9.out.alloc (by omega) _).alloc (by simp; omega) _ |>.grown HG6.out (by simp; omega) (fun k e => by have := HNB.out k e; have := HS3.out; omega)).grown hg7 (by have := HG6.out.size; simp at this; omega) (by intro k hk; cases hk; omega)
        clear hR7 hg7 hs7 hR6
        go_wp2
        go_roundg Bs.length
        case measure => first | omega | (rw [hgg]; simp)
        case rel => exact ⟨As ++ [T], Bs, ds ++ [D], .slice o6 (j + 1) c6, _, rfl, HA2, by rw [List.length_append, ← HJ.out]; go_num, HEND, HB7⟩
      | none =>
        rw [hdv] at hout
        obtain ⟨k9, n9, o9, m9, c9, rfl⟩ := hout
        have HNO : Hid (t.dev = none) := dev_none HTM.out hdv
        unfold lcC
        clear hdv hB9 hB29 hO9
        go_wp2_with (first | (refine wpList_load_row rfl 54 _ rfl w.heap.size rfl 54 #[.int .i64 kd, .int .i64 nm, .slice (some ⟨g, 0, none⟩) q cz] (0, 0) _ (RowAt.old HRT9.out _) Try.underlying54 rfl zero_lcT.2 ?_) | (refine store_3 rfl 54 _ _ rfl rfl zero_lcT.2 (w.heap.size + 1) (lcC kd nm (.slice (some ⟨g, 0, none⟩) q cz)) rfl (lcC_one _ _ _ rfl) rfl rfl _ rfl (RowAt.old HRZ9.out _) ?_; intro w5 hR5 hg5 hs5))
        exact bodyPost_ret (v := .tuple #[.agg (lcC kd nm (.slice (some ⟨g, 0, none⟩) q cz)), .bool false]) (res_lc_tmp Try.results62 _ _ (w.heap.size + 1) kd nm (.slice (some ⟨g, 0, none⟩) q cz) (.bool false) rfl rfl hR5) rfl ⟨by rw [HNO.out]; exact ⟨_, _, _, _, _, rfl⟩, (HB9.out.alloc (by omega) _).grown hg5 (by simp; omega) (by intro k hk; cases hk; omega)⟩
theorem lcDevelop_all : ∀ N, LdvC N := by
  intro N
  induction N using Nat.strongRecOn with
  | _ N IH => exact lcDevelop_step N IH
end Go.Proofs.Ytbnagagdboeedaa

/-
  What the evaluation of the program comes to: reduce, apply, bring.
-/
namespace Go.Proofs.Ytbnagagdboeedaa
open Go.RowKit BL
set_option linter.unusedVariables false

/-- What bring, apply and reduce answer. -/
def BrIn (E fuel : Nat) (v : Bool) (r : Option (Lm × Nat)) (p : Option Addr) (q : Bool) (w' : World) : Prop := match r with
  | none => q = false
  | some (s, m) => q = true ∧ ∃ b', p = some ⟨b', 0, none⟩ ∧ TrIn w' (fun y => y ≠ E) s b' ∧ EvAt w' E v fuel m
def BrOut (w : World) (E fuel : Nat) (v : Bool) (r : Option (Lm × Nat)) (e : Ending) (w' : World) : Prop :=
  (∃ p q, e = .returned (.tuple #[.pointer p, .bool q]) ∧ BrIn E fuel v r p q w') ∧ w.grownBy w' (some E)
theorem BrOut.none {w w' : World} {E fuel : Nat} {v : Bool} {r : Option (Lm × Nat)} {p : Option Addr} (hr : r = none) (hg : w.grownBy w' (some E)) : BrOut w E fuel v r (.returned (.tuple #[.pointer p, .bool false])) w' := by
  subst hr; exact ⟨⟨p, false, rfl, rfl⟩, hg⟩
theorem BrOut.back {w w1 w' : World} {E fuel : Nat} {v : Bool} {r r' : Option (Lm × Nat)} {p : Option Addr} {q : Bool} (h : BrIn E fuel v r p q w' ∧ w1.grownBy w' (some E)) (hg : w.grownBy w1 (some E)) (hr : r' = r) : BrOut w E fuel v r' (.returned (.tuple #[.pointer p, .bool q])) w' := by
  subst hr; exact ⟨⟨p, q, rfl, h.1⟩, gr_trans hg h.2⟩
def BrS (E fuel : Nat) (v : Bool) (K M : Nat) : Prop := ∀ (n : Nat) (t : Lm) (b : Nat) (stk : List Fr) (d h : Value) (w : World), n + K = fuel → 2 * t.sz + muS stk ≤ M → EvAt w E v fuel n → TrIn w (fun y => y ≠ E) t b → StkIn w E stk d h → stkOk v stk = true → (wholeS stk t).good = true → (wholeS stk t).cl 0 = true →
    Calls Try.prog 75 #[.pointer (some ⟨E, 0, none⟩), .pointer (some ⟨b, 0, none⟩), .agg #[d, h]] w (BrOut w E fuel v (runT v K n (wholeS stk t)))
theorem StkIn.dform {w : World} {E : Nat} {s : List Fr} {d h : Value} (hs : StkIn w E s d h) : ∃ lf lb, d = .func (.func lf) #[] lb := by
  cases s with
  | nil => exact ⟨_, _, hs.1⟩
  | cons fr s => cases fr with
    | fst x => obtain ⟨be, bs, bn, bx, d', h', ⟨e, _⟩, _⟩ := hs; exact ⟨_, _, e⟩
    | snd f => obtain ⟨be, bs, bn, bx, d', h', ⟨e, _⟩, _⟩ := hs; exact ⟨_, _, e⟩
theorem EvAt.gr {w w' : World} {E fuel n : Nat} {v : Bool} (h : EvAt w E v fuel n) (hB : Below w.heap.size w w') : EvAt w' E v fuel n := RowAt.below h hB h.lt
theorem EvAt.set {w : World} {E fuel n : Nat} {v : Bool} (h : EvAt w E v fuel n) (m : Nat) : EvAt (w.setCell ⟨E, 2, none⟩ (.int .i64 (m : Int))) E v fuel m := heap_setCell_same w E 2 _ _ (.int .i64 (m : Int)) h
theorem one_then : (Try.prog.info? 94).map (·.size) = some 2 := by kernel_rfl
set_option maxHeartbeats 8000000 in
set_option maxRecDepth 100000 in
theorem reduce_any (E fuel : Nat) (v : Bool) (K : Nat) (hf : fuel ≤ 1000) (IH : ∀ K', K' + 1 = K → ∀ M, BrS E fuel v K' M) (n : Nat) (body arg : Lm) (b : Nat) (stk : List Fr) (d h : Value) (w : World) (hn : n + K = fuel) (hE : EvAt w E v fuel n) (hT : TrIn w (fun y => y ≠ E) (.app (.lam body) arg) b) (hs : StkIn w E stk d h) (hok : stkOk v stk = true) (hv : v = true → arg.isLam = true)
    (hg : (wholeS stk (.app (.lam body) arg)).good = true) (hc : (wholeS stk (.app (.lam body) arg)).cl 0 = true) :
    Calls Try.prog 143 #[.pointer (some ⟨E, 0, none⟩), .pointer (some ⟨b, 0, none⟩), .agg #[d, h]] w (BrOut w E fuel v (runT v K n (wholeS stk (.app (.lam body) arg)))) := by
  have hEl := hE.lt
  obtain ⟨lf, lb, rfl, eg, hwc⟩ := whole_fn E stk d h w hs hEl
  obtain ⟨ld, lc, rfl⟩ := hs.dform
  obtain ⟨T, hTd⟩ : ∃ T, T = Lm.app (.lam body) arg := ⟨_, rfl⟩
  have hst : (wholeS stk T).stp v = some (wholeS stk T.beta) := by rw [hTd]; exact stp_whole hok (stp_red hv)
  have hred : T.isRed = true := by rw [hTd]; rfl
  rw [← hTd] at hT hg hc ⊢
  have hgz := Lm.good_sz hg
  have h1 := sz_whole stk T
  have h2 := Lm.stp_sz hst
  have h3 : (wholeS stk T).sz * (wholeS stk T).sz ≤ 150 * 150 := Nat.mul_le_mul hgz.1 hgz.1
  have hbd : T.bd := Lm.cl_bd (m := 0) (whole_cl hc) (by omega)
  have HBC := hideT' (Lm.stp_cl hc hst)
  obtain ⟨D, hD⟩ : ∃ D, D = T.beta := ⟨_, rfl⟩
  obtain ⟨W, hWd⟩ : ∃ W, W = w.alloc (.cells #[.func (.func ld) #[] lc, .func (.func lf) #[] lb] 94) := ⟨_, rfl⟩
  have hBW : Below w.heap.size w W := by rw [hWd]; exact (Below.refl _ _).alloc (Nat.le_refl _) _
  have HRN : Hid (RowAt W w.heap.size 94 #[.func (.func ld) #[] lc, .func (.func lf) #[] lb]) := by unfold Hid; rw [hWd]; exact RowAt.new _ _ _
  have HC := hideT' (reduced_any T b (fun y => y ≠ E) W (TrIn.below hBW hT) hred (by omega) hbd)
  rw [← hD] at hst h2 HC HBC
  have HSZ : Hid ((wholeS stk D).sz ≤ 22500) := by unfold Hid; omega
  have HST := hideT' hst
  have HEV := hideT' hE
  have HSK := hideT' hs
  have HOK := hideT' hok
  have HIH := hideT' IH
  have HWC := hideT' hwc
  have HBW := hideT' hBW
  have hn0 : (0 : Int) ≤ (n : Int) := by omega
  have hn9 : (n : Int) ≤ 1000 := by omega
  have hw1 : IntKind.i64.wrap ((n : Int) + 1) = (n : Int) + 1 := by rw [IntKind.wrap_i64]; omega
  have HNK := hideT' hn
  have hWs : W.heap.size = w.heap.size + 1 := by rw [hWd]; simp
  clear hs hok hv hT hg hc hTd hst hred hgz h1 h2 h3 hbd hD IH hwc hBW hE hn
  go_enter Try.func143, Try.ntmps143
  go_wp2_with fail
  rw [← hWd]
  refine HC.out.mono ?_
  rintro e w1 ⟨⟨b1, rfl, hT1⟩, hB1⟩
  have hE1 : EvAt w1 E v fuel n := (HEV.out.gr HBW.out).gr hB1
  have hN1 : RowAt w1 w.heap.size 94 #[.func (.func ld) #[] lc, .func (.func lf) #[] lb] := HRN.out.below hB1 HRN.out.lt
  have hT1 : TrIn w1 (fun y => y ≠ E) D b1 := tr_new (w := W) (by omega) hT1
  have hs1 := hB1.size
  have c2 : w1.cell? ⟨E, 2, none⟩ = some (.int .i64 (n : Int)) := by rw [cell_of_row _ _ _ _ _ _ hE1]; rfl
  have fz2 : w1.frozen? ⟨E, 2, none⟩ = false := frozen_of_row w1 E 2 _ _ hE1
  obtain ⟨W2, hW2⟩ : ∃ W2, W2 = w1.setCell ⟨E, 2, none⟩ (.int .i64 ((n : Int) + 1)) := ⟨_, rfl⟩
  have hE2 : EvAt W2 E v fuel (n + 1) := by
    have := hE1.set (n + 1)
    rw [hW2]
    simpa using this
  have hg2 : w1.grownBy W2 (some E) := by rw [hW2]; exact grown_set w1 E 2 _
  have hNE : w.heap.size ≠ E := by omega
  have hN2 : RowAt W2 w.heap.size 94 #[.func (.func ld) #[] lc, .func (.func lf) #[] lb] := row_gr hN1 hg2 hNE
  have hT2 : TrIn W2 (fun y => y ≠ E) D b1 := tr_gr hg2 hT1
  have HGW : Hid (w.grownBy W2 (some E)) := gr_trans (gr_below (below_grown HBW.out _) hB1) hg2
  have d1 : (w1.setCell ⟨E, 2, none⟩ (.int .i64 ((n : Int) + 1))).cell? ⟨E, 1, none⟩ = some (.int .i64 (fuel : Int)) := by rw [← hW2, cell_of_row _ _ _ _ _ _ hE2]; rfl
  have d2 : (w1.setCell ⟨E, 2, none⟩ (.int .i64 ((n : Int) + 1))).cell? ⟨E, 2, none⟩ = some (.int .i64 ((n : Int) + 1)) := by rw [← hW2, cell_of_row _ _ _ _ _ _ hE2]; rfl
  have HE2 := hideT' hE2
  have HN2 := hideT' hN2
  have HT2 := hideT' hT2
  have HW2 := hideT' hW2
  clear hT1 hB1 hE1 hN1 hE2 hg2 hN2 hT2 hW2 hWd
  cases K with
  | zero =>
    have HZ : Hid (runT v 0 n (wholeS stk T) = none) := runT_zero HST.out
    have hgt : (fuel : Int) < (n : Int) + 1 := by have := HNK.out; omega
    go_wp2_with fail
    go_quiet (fail)
    go_wp2
    go_ret2
    have h0 := HGW.out
    rw [HW2.out] at h0
    exact BrOut.none HZ.out ⟨h0.os, h0.tape, h0.output, h0.size, h0.block⟩
  | succ K =>
    have hgt : ¬ (fuel : Int) < (n : Int) + 1 := by have := HNK.out; omega
    go_wp2_with fail
    rw [← HW2.out]
    have hS : EvAt W2.drew E v fuel (n + 1) ∧ RowAt W2.drew w.heap.size 94 #[.func (.func ld) #[] lc, .func (.func lf) #[] lb] := ⟨HE2.out, HN2.out⟩
    have HA := hideT' (HWC.out D b1 W2.drew ⟨HGW.out.os, HGW.out.tape, HGW.out.output, HGW.out.size, HGW.out.block⟩ (TrIn.keep (w := W2) (w' := W2.drew) (Nat.le_refl _) (fun _ _ _ => rfl) (fun _ h _ => h) HT2.out) (Nat.le_trans HSZ.out (by omega)))
    have HEL : Hid (E < W2.heap.size) := HE2.out.lt
    obtain ⟨X, hX⟩ : ∃ X, X = wholeS stk D := ⟨_, rfl⟩
    rw [← hX] at HA
    have HX := hideT' hX
    clear hX c2 d1 d2 fz2
    refine held_begin (fun w' => EvAt w' E v fuel (n + 1) ∧ RowAt w' w.heap.size 94 #[.func (.func ld) #[] lc, .func (.func lf) #[] lb]) (by kernel_rfl) ?_
    refine held_valS 0 (some 18) rfl rfl (by kernel_rfl) (by kernel_rfl) (by kernel_rfl) noPanic_put rfl (.pointer (some ⟨E, 0, none⟩)) (fun _ _ => by go_simp) hS ?_
    simp only [Act.put, List.setIfInBounds_toArray, List.set_cons_zero, List.set_cons_succ]
    refine held_valS 1 (some 19) rfl rfl (by kernel_rfl) (by kernel_rfl) (by kernel_rfl) noPanic_put rfl (.pointer (some ⟨E, 0, none⟩)) (fun _ _ => by go_simp) hS ?_
    simp only [Act.put, List.setIfInBounds_toArray, List.set_cons_zero, List.set_cons_succ]
    refine held_valS 2 (some 20) rfl rfl (by kernel_rfl) (by kernel_rfl) (by kernel_rfl) noPanic_put rfl (.pointer (some ⟨E, 2, none⟩)) (fun _ _ => by go_simp) hS ?_
    simp only [Act.put, List.setIfInBounds_toArray, List.set_cons_zero, List.set_cons_succ]
    refine held_valS 3 (some 21) rfl rfl (by kernel_rfl) (by kernel_rfl) (by kernel_rfl) noPanic_put rfl (.int .i64 ((n : Int) + 1)) (fun w' h => by have q : w'.cell? ⟨E, 2, none⟩ = some (.int .i64 ((n : Int) + 1)) := (by rw [cell_of_row _ _ _ _ _ _ h.1]; rfl); go_simp) hS ?_
    simp only [Act.put, List.setIfInBounds_toArray, List.set_cons_zero, List.set_cons_succ]
    refine held_valS 4 (some 22) rfl rfl (by kernel_rfl) (by kernel_rfl) (by kernel_rfl) noPanic_put rfl (.pointer (some ⟨E, 0, none⟩)) (fun _ _ => by go_simp) hS ?_
    simp only [Act.put, List.setIfInBounds_toArray, List.set_cons_zero, List.set_cons_succ]
    refine held_valS 5 (some 23) rfl rfl (by kernel_rfl) (by kernel_rfl) (by kernel_rfl) noPanic_put rfl (.pointer (some ⟨E, 0, none⟩)) (fun _ _ => by go_simp) hS ?_
    simp only [Act.put, List.setIfInBounds_toArray, List.set_cons_zero, List.set_cons_succ]
    refine held_valS 6 (some 24) rfl rfl (by kernel_rfl) (by kernel_rfl) (by kernel_rfl) noPanic_put rfl (.pointer (some ⟨E, 1, none⟩)) (fun _ _ => by go_simp) hS ?_
    simp only [Act.put, List.setIfInBounds_toArray, List.set_cons_zero, List.set_cons_succ]
    refine held_valS 7 (some 25) rfl rfl (by kernel_rfl) (by kernel_rfl) (by kernel_rfl) noPanic_put rfl (.int .i64 (fuel : Int)) (fun w' h => by have q : w'.cell? ⟨E, 1, none⟩ = some (.int .i64 (fuel : Int)) := (by rw [cell_of_row _ _ _ _ _ _ h.1]; rfl); go_simp) hS ?_
    simp only [Act.put, List.setIfInBounds_toArray, List.set_cons_zero, List.set_cons_succ]
    refine held_valS 8 (some 26) rfl rfl (by kernel_rfl) (by kernel_rfl) (by kernel_rfl) noPanic_put rfl (.bool false) (fun _ _ => by go_simp) hS ?_
    simp only [Act.put, List.setIfInBounds_toArray, List.set_cons_zero, List.set_cons_succ]
    refine held_valS 9 (some 27) rfl rfl (by kernel_rfl) (by kernel_rfl) (by kernel_rfl) noPanic_put rfl (.bool false) (fun _ _ => by go_simp) hS ?_
    simp only [Act.put, List.setIfInBounds_toArray, List.set_cons_zero, List.set_cons_succ]
    refine held_valS 10 (some 28) rfl rfl (by kernel_rfl) (by kernel_rfl) (by kernel_rfl) noPanic_put rfl (.pointer (some ⟨w.heap.size, 1, none⟩)) (fun _ _ => by go_simp) hS ?_
    simp only [Act.put, List.setIfInBounds_toArray, List.set_cons_zero, List.set_cons_succ]
    refine held_valS 11 (some 29) rfl rfl (by kernel_rfl) (by kernel_rfl) (by kernel_rfl) noPanic_put rfl (.func (.func lf) #[] lb) (fun w' h => by have q : w'.cell? ⟨w.heap.size, 1, none⟩ = some (.func (.func lf) #[] lb) := (by rw [cell_of_row _ _ _ _ _ _ h.2]; rfl); go_simp) hS ?_
    simp only [Act.put, List.setIfInBounds_toArray, List.set_cons_zero, List.set_cons_succ]
    refine held_valS 12 (some 30) rfl rfl (by kernel_rfl) (by kernel_rfl) (by kernel_rfl) noPanic_put rfl (.pointer (some ⟨b1, 0, none⟩)) (fun _ _ => by go_simp) hS ?_
    simp only [Act.put, List.setIfInBounds_toArray, List.set_cons_zero, List.set_cons_succ]
    refine held_call 13 (some 31) (by kernel_rfl) rfl rfl rfl lf (_) (by go_simp) _ (HA.out) ?_
    rintro e w5 ⟨⟨b5, rfl, hT5⟩, hB5⟩
    have hB5 : Below W2.heap.size W2 w5 := ⟨hB5.os, hB5.tape, hB5.output, hB5.size, hB5.block⟩
    have hS5 : EvAt w5 E v fuel (n + 1) ∧ RowAt w5 w.heap.size 94 #[.func (.func ld) #[] lc, .func (.func lf) #[] lb] := ⟨HE2.out.gr hB5, HN2.out.below hB5 HN2.out.lt⟩
    refine ⟨_, rfl, hS5, ?_⟩
    simp only [Act.put, List.setIfInBounds_toArray, List.set_cons_zero, List.set_cons_succ]
    obtain ⟨gd, hgd⟩ : ∃ gd, gd = X.good := ⟨_, rfl⟩
    have hIG := isGood_any X b5 _ w5 hT5 (by rw [HX.out]; exact Nat.le_trans HSZ.out (by omega))
    rw [← hgd] at hIG
    refine held_call 14 (some 32) (by kernel_rfl) rfl rfl rfl 68 (_) (by go_simp) _ (hIG) ?_
    rintro e w6 ⟨rfl, hB6⟩
    have hS6 : EvAt w6 E v fuel (n + 1) ∧ RowAt w6 w.heap.size 94 #[.func (.func ld) #[] lc, .func (.func lf) #[] lb] := ⟨hS5.1.gr hB6, hS5.2.below hB6 hS5.2.lt⟩
    refine ⟨_, rfl, hS6, ?_⟩
    simp only [Act.put, List.setIfInBounds_toArray, List.set_cons_zero, List.set_cons_succ]
    refine held_valS 15 (some 33) rfl rfl (by kernel_rfl) (by kernel_rfl) (by kernel_rfl) noPanic_put rfl (.bool (!gd)) (fun _ _ => by go_simp) hS6 ?_
    simp only [Act.put, List.setIfInBounds_toArray, List.set_cons_zero, List.set_cons_succ]
    refine held_valS 16 (some 34) rfl rfl (by kernel_rfl) (by kernel_rfl) (by kernel_rfl) noPanic_put rfl (.bool (!gd)) (fun _ _ => by go_simp) hS6 ?_
    simp only [Act.put, List.setIfInBounds_toArray, List.set_cons_zero, List.set_cons_succ]
    refine wpAnyH_done (by kernel_rfl) ?_ _
    refine NoPanic.normal ?_
    have hB6' : Below W2.heap.size W2 w6 := hB5.trans (hB6.mono hB5.size)
    have HG6 : Hid (w.grownBy w6 (some E)) := gr_below HGW.out hB6'
    have HT6 : Hid (TrIn w6 (fun y => y ≠ E) D b1) := TrIn.below hB6' HT2.out
    have HS6 := hideT' hS6
    have HGD := hideT' hgd
    clear hT5 hB5 hS hS5 hB6 hB6' hIG hS6 hgd HA
    cases gd with
    | false =>
      have HZ : Hid (runT v (K + 1) n (wholeS stk T) = none) := runT_bad HST.out (by rw [← HX.out]; exact HGD.out.symm)
      go_wp2
      go_ret2
      exact BrOut.none HZ.out HG6.out
    | true =>
      have hgX : (wholeS stk D).good = true := by rw [← HX.out]; exact HGD.out.symm
      have HZ : Hid (runT v (K + 1) n (wholeS stk T) = runT v K (n + 1) (wholeS stk D)) := runT_step HST.out hgX
      have e0 : w6.cell? ⟨w.heap.size, 0, none⟩ = some (.func (.func ld) #[] lc) := by rw [cell_of_row _ _ _ _ _ _ HS6.out.2]; rfl
      have e1 : w6.cell? ⟨w.heap.size, 1, none⟩ = some (.func (.func lf) #[] lb) := by rw [cell_of_row _ _ _ _ _ _ HS6.out.2]; rfl
      have HC2 := hideT' (HIH.out K rfl (2 * D.sz + muS stk) (n + 1) D b1 stk _ _ w6 (by have := HNK.out; omega) (Nat.le_refl _) HS6.out.1 HT6.out (StkIn.gr HG6.out HSK.out) HOK.out hgX HBC.out)
      clear hgX
      go_wp2_with fail
      refine HC2.out.mono ?_
      rintro e w7 ⟨⟨p, q, rfl, hin⟩, hg7⟩
      have HF := hideT' (And.intro hin hg7)
      clear hin hg7 e0 e1
      go_wp2
      go_ret2
      exact BrOut.back HF.out HG6.out HZ.out
end Go.Proofs.Ytbnagagdboeedaa

/-
  What the evaluation of the program comes to: apply and bring.
-/
namespace Go.Proofs.Ytbnagagdboeedaa
open Go.RowKit BL
set_option linter.unusedVariables false

theorem StkIn.hform {w : World} {E : Nat} {s : List Fr} {d h : Value} (hs : StkIn w E s d h) : ∃ lf lb, h = .func (.func lf) #[] lb := by
  cases s with
  | nil => exact ⟨_, _, hs.2⟩
  | cons fr s => cases fr with
    | fst x => obtain ⟨be, bs, bn, bx, d', h', ⟨_, e⟩, _⟩ := hs; exact ⟨_, _, e⟩
    | snd f => obtain ⟨be, bs, bn, bx, d', h', ⟨_, e⟩, _⟩ := hs; exact ⟨_, _, e⟩
theorem muS_cons (fr : Fr) (s : List Fr) : muS (fr :: s) = fr.mu + muS s := rfl
theorem tr_drew {w : World} {P : Nat → Prop} {t : Lm} {b : Nat} (h : TrIn w P t b) : TrIn w.drew P t b := TrIn.keep (w := w) (w' := w.drew) (Nat.le_refl _) (fun _ _ _ => rfl) (fun _ h _ => h) h
theorem gr_drew {w w' : World} {r : Option Nat} (h : w.drew.grownBy w' r) : w.grownBy w' r := ⟨h.os, h.tape, h.output, h.size, h.block⟩
set_option maxHeartbeats 8000000 in
set_option maxRecDepth 100000 in
theorem apply1_any (E fuel : Nat) (v : Bool) (K : Nat) (hf : fuel ≤ 1000) (IH : ∀ K', K' + 1 = K → ∀ M, BrS E fuel v K' M) (n : Nat) (body x : Lm) (b be bs bn bf : Nat) (stk : List Fr) (d h : Value) (w : World) (hn : n + K = fuel) (hE : EvAt w E v fuel n)
    (n1 : be ≠ E) (n2 : bs ≠ E) (n3 : bn ≠ E) (re : RowAt w be 144 #[.pointer (some ⟨E, 0, none⟩)]) (rs : RowAt w bs 60 #[.pointer (some ⟨bf, 0, none⟩)]) (rn : RowAt w bn 94 #[d, h]) (hF : TrIn w (fun y => y ≠ E) (.lam body) bf) (hT : TrIn w (fun y => y ≠ E) x b) (hs : StkIn w E stk d h) (hok : stkOk v stk = true) (hv : v = true → x.isLam = true)
    (hg : (wholeS stk (.app (.lam body) x)).good = true) (hc : (wholeS stk (.app (.lam body) x)).cl 0 = true) :
    Calls Try.prog 142 #[.pointer (some ⟨b, 0, none⟩), .pointer (some ⟨be, 0, none⟩), .pointer (some ⟨bs, 0, none⟩), .pointer (some ⟨bn, 0, none⟩)] w (BrOut w E fuel v (runT v K n (wholeS stk (.app (.lam body) x)))) := by
  obtain ⟨ld, lc, rfl⟩ := hs.dform
  obtain ⟨lf, lb, rfl⟩ := hs.hform
  have hEl := hE.lt
  have h1 := sz_whole stk (.app (.lam body) x)
  have hgz := (Lm.good_sz hg).1
  simp only [Lm.sz] at h1
  have HA := hideT' (application_any (.lam body) x bf b (fun y => y ≠ E) w.drew (tr_drew hF) (tr_drew hT) (by simp only [Lm.sz]; omega) (by omega))
  have HRD : Hid (∀ (b1 : Nat) (w1 : World), w.grownBy w1 (some E) → EvAt w1 E v fuel n → TrIn w1 (fun y => y ≠ E) (.app (.lam body) x) b1 → Calls Try.prog 143 #[.pointer (some ⟨E, 0, none⟩), .pointer (some ⟨b1, 0, none⟩), .agg #[.func (.func ld) #[] lc, .func (.func lf) #[] lb]] w1 (BrOut w1 E fuel v (runT v K n (wholeS stk (.app (.lam body) x))))) :=
    fun b1 w1 hg1 hE1 hT1 => reduce_any E fuel v K hf IH n body x b1 stk _ _ w1 hn hE1 hT1 (StkIn.gr hg1 hs) hok hv hg hc
  obtain ⟨r, hr⟩ : ∃ r, r = runT v K n (wholeS stk (.app (.lam body) x)) := ⟨_, rfl⟩
  rw [← hr] at HRD ⊢
  have HEV := hideT' hE
  have HR := hideT' (And.intro re (And.intro rs rn))
  have hbe := re.lt
  have hbs := rs.lt
  have hbn := rn.lt
  have hS : RowAt w.drew be 144 #[.pointer (some ⟨E, 0, none⟩)] ∧ RowAt w.drew bs 60 #[.pointer (some ⟨bf, 0, none⟩)] ∧ RowAt w.drew bn 94 #[.func (.func ld) #[] lc, .func (.func lf) #[] lb] := ⟨re, rs, rn⟩
  clear hs hok hv hg hc hF hT re rs rn IH hE h1 hgz hr
  go_enter Try.func142, Try.ntmps142
  go_wp2_with fail
  refine held_begin (fun w' => RowAt w' be 144 #[.pointer (some ⟨E, 0, none⟩)] ∧ RowAt w' bs 60 #[.pointer (some ⟨bf, 0, none⟩)] ∧ RowAt w' bn 94 #[.func (.func ld) #[] lc, .func (.func lf) #[] lb]) (by kernel_rfl) ?_
  refine held_valS 0 (some 7) rfl rfl (by kernel_rfl) (by kernel_rfl) (by kernel_rfl) noPanic_put rfl (.pointer (some ⟨E, 0, none⟩)) (fun w' h => by have q : w'.cell? ⟨be, 0, none⟩ = some (.pointer (some ⟨E, 0, none⟩)) := (by rw [cell_of_row _ _ _ _ _ _ h.1]; rfl); go_simp) hS ?_
  simp only [Act.put, List.setIfInBounds_toArray, List.set_cons_zero, List.set_cons_succ]
  refine held_valS 1 (some 8) rfl rfl (by kernel_rfl) (by kernel_rfl) (by kernel_rfl) noPanic_put rfl (.pointer (some ⟨bf, 0, none⟩)) (fun w' h => by have q : w'.cell? ⟨bs, 0, none⟩ = some (.pointer (some ⟨bf, 0, none⟩)) := (by rw [cell_of_row _ _ _ _ _ _ h.2.1]; rfl); go_simp) hS ?_
  simp only [Act.put, List.setIfInBounds_toArray, List.set_cons_zero, List.set_cons_succ]
  refine held_valS 2 (some 9) rfl rfl (by kernel_rfl) (by kernel_rfl) (by kernel_rfl) noPanic_put rfl (.pointer (some ⟨b, 0, none⟩)) (fun _ _ => by go_simp) hS ?_
  simp only [Act.put, List.setIfInBounds_toArray, List.set_cons_zero, List.set_cons_succ]
  refine held_valS 4 (some 11) rfl rfl (by kernel_rfl) (by kernel_rfl) (by kernel_rfl) noPanic_put rfl (.agg #[.func (.func ld) #[] lc, .func (.func lf) #[] lb]) (fun w' h => by have q0 : w'.cell? ⟨bn, 0, none⟩ = some (.func (.func ld) #[] lc) := (by rw [cell_of_row _ _ _ _ _ _ h.2.2]; rfl); have q1 : w'.cell? ⟨bn, 1, none⟩ = some (.func (.func lf) #[] lb) := (by rw [cell_of_row _ _ _ _ _ _ h.2.2]; rfl); go_simp) hS ?_
  simp only [Act.put, List.setIfInBounds_toArray, List.set_cons_zero, List.set_cons_succ]
  refine held_call 3 (some 10) (by kernel_rfl) rfl rfl rfl 85 (_) (by go_simp) _ (HA.out) ?_
  rintro e w1 ⟨⟨b1, rfl, hT1⟩, hB1⟩
  have hB1 : Below w.heap.size w w1 := ⟨hB1.os, hB1.tape, hB1.output, hB1.size, hB1.block⟩
  have hS1 : RowAt w1 be 144 #[.pointer (some ⟨E, 0, none⟩)] ∧ RowAt w1 bs 60 #[.pointer (some ⟨bf, 0, none⟩)] ∧ RowAt w1 bn 94 #[.func (.func ld) #[] lc, .func (.func lf) #[] lb] := ⟨HR.out.1.below hB1 hbe, HR.out.2.1.below hB1 hbs, HR.out.2.2.below hB1 hbn⟩
  refine ⟨_, rfl, hS1, ?_⟩
  simp only [Act.put, List.setIfInBounds_toArray, List.set_cons_zero, List.set_cons_succ]
  have hT1 : TrIn w1 (fun y => y ≠ E) (.app (.lam body) x) b1 := tr_new (w := w) hEl hT1
  refine held_call 5 (some 12) (by kernel_rfl) rfl rfl rfl 143 (_) (by go_simp) _ (HRD.out b1 w1 (below_grown hB1 _) (HEV.out.gr hB1) hT1) ?_
  rintro e w2 ⟨⟨p, q, rfl, hin⟩, hg2⟩
  have hS2 : RowAt w2 be 144 #[.pointer (some ⟨E, 0, none⟩)] ∧ RowAt w2 bs 60 #[.pointer (some ⟨bf, 0, none⟩)] ∧ RowAt w2 bn 94 #[.func (.func ld) #[] lc, .func (.func lf) #[] lb] := ⟨row_gr hS1.1 hg2 n1, row_gr hS1.2.1 hg2 n2, row_gr hS1.2.2 hg2 n3⟩
  refine ⟨_, rfl, hS2, ?_⟩
  simp only [Act.put, List.setIfInBounds_toArray, List.set_cons_zero, List.set_cons_succ]
  refine held_valS 6 (some 13) rfl rfl (by kernel_rfl) (by kernel_rfl) (by kernel_rfl) noPanic_put rfl (.pointer p) (fun _ _ => by go_simp) hS2 ?_
  simp only [Act.put, List.setIfInBounds_toArray, List.set_cons_zero, List.set_cons_succ]
  refine held_valS 7 (some 14) rfl rfl (by kernel_rfl) (by kernel_rfl) (by kernel_rfl) noPanic_put rfl (.bool q) (fun _ _ => by go_simp) hS2 ?_
  simp only [Act.put, List.setIfInBounds_toArray, List.set_cons_zero, List.set_cons_succ]
  refine held_valS 8 (some 5) rfl rfl (by kernel_rfl) (by kernel_rfl) (by kernel_rfl) noPanic_put rfl (.pointer p) (fun _ _ => by go_simp) hS2 ?_
  simp only [Act.put, List.setIfInBounds_toArray, List.set_cons_zero, List.set_cons_succ]
  refine held_valS 9 (some 6) rfl rfl (by kernel_rfl) (by kernel_rfl) (by kernel_rfl) noPanic_put rfl (.bool q) (fun _ _ => by go_simp) hS2 ?_
  simp only [Act.put, List.setIfInBounds_toArray, List.set_cons_zero, List.set_cons_succ]
  refine wpAnyH_done (by kernel_rfl) ?_ _
  refine NoPanic.normal ?_
  have HF : Hid ((BrIn E fuel v r p q w2 ∧ w1.grownBy w2 (some E)) ∧ w.grownBy w1 (some E)) := ⟨⟨hin, hg2⟩, below_grown hB1 _⟩
  clear hT1 hB1 hin hg2 hS hS1 hS2
  go_wp2
  go_ret2
  exact BrOut.back HF.out.1 HF.out.2 rfl
set_option maxHeartbeats 8000000 in
set_option maxRecDepth 100000 in
theorem head1_any (E fuel : Nat) (K : Nat) (hf : fuel ≤ 1000) (IH : ∀ K', K' + 1 = K → ∀ M, BrS E fuel false K' M) (n : Nat) (body x : Lm) (b be bs bn bf : Nat) (stk : List Fr) (d h : Value) (w : World) (hn : n + K = fuel) (hE : EvAt w E false fuel n) (hv2 : Value) (lg : Nat) (lq : Array Value) (hh : hv2 = .func (.func lg) #[] lq)
    (n1 : be ≠ E) (n2 : bs ≠ E) (n3 : bn ≠ E) (re : RowAt w be 144 #[.pointer (some ⟨E, 0, none⟩)]) (rs : RowAt w bs 60 #[.pointer (some ⟨bf, 0, none⟩)]) (rn : RowAt w bn 94 #[d, h]) (hF : TrIn w (fun y => y ≠ E) (.lam body) bf) (hT : TrIn w (fun y => y ≠ E) x b) (hs : StkIn w E stk d h) (hok : stkOk false stk = true)
    (hg : (wholeS stk (.app (.lam body) x)).good = true) (hc : (wholeS stk (.app (.lam body) x)).cl 0 = true) :
    Calls Try.prog 78 #[.pointer (some ⟨b, 0, none⟩), .agg #[.func (.func 142) #[] #[.pointer (some ⟨be, 0, none⟩), .pointer (some ⟨bs, 0, none⟩), .pointer (some ⟨bn, 0, none⟩)], hv2]] w (BrOut w E fuel false (runT false K n (wholeS stk (.app (.lam body) x)))) := by
  subst hh
  obtain ⟨W, hWd⟩ : ∃ W, W = w.alloc (.cells #[.func (.func 142) #[] #[.pointer (some ⟨be, 0, none⟩), .pointer (some ⟨bs, 0, none⟩), .pointer (some ⟨bn, 0, none⟩)], .func (.func lg) #[] lq] 94) := ⟨_, rfl⟩
  have hBW : Below w.heap.size w W := by rw [hWd]; exact (Below.refl _ _).alloc (Nat.le_refl _) _
  have hgW : w.grownBy W (some E) := below_grown hBW _
  have HC := hideT' (apply1_any E fuel false K hf IH n body x b be bs bn bf stk d h W hn (hE.gr hBW) n1 n2 n3 (row_gr re hgW n1) (row_gr rs hgW n2) (row_gr rn hgW n3) (tr_gr hgW hF) (tr_gr hgW hT) (StkIn.gr hgW hs) hok (fun h => by cases h) hg hc)
  obtain ⟨r, hr⟩ : ∃ r, r = runT false K n (wholeS stk (.app (.lam body) x)) := ⟨_, rfl⟩
  rw [← hr] at HC ⊢
  have HGW := hideT' hgW
  clear hs hok hg hc hF hT re rs rn IH hE hBW hgW hr
  go_enter Try.func78, Try.ntmps78
  go_wp2_with fail
  rw [← hWd]
  refine HC.out.mono ?_
  rintro e w2 ⟨⟨p, q, rfl, hin⟩, hg2⟩
  have HF := hideT' (And.intro hin hg2)
  clear hin hg2
  go_wp2
  go_ret2
  exact BrOut.back HF.out HGW.out rfl
set_option maxHeartbeats 8000000 in
set_option maxRecDepth 100000 in
theorem apply_any (E fuel : Nat) (v : Bool) (K M : Nat) (hf : fuel ≤ 1000) (IH : ∀ K', K' + 1 = K → ∀ M, BrS E fuel v K' M) (IHm : ∀ M', M' < M → BrS E fuel v K M') (n : Nat) (body x : Lm) (bf bx : Nat) (stk : List Fr) (d h : Value) (w : World) (hn : n + K = fuel) (hmu : 2 * x.sz + muS stk < M) (hE : EvAt w E v fuel n)
    (hF : TrIn w (fun y => y ≠ E) (.lam body) bf) (hT : TrIn w (fun y => y ≠ E) x bx) (hs : StkIn w E stk d h) (hok : stkOk v stk = true)
    (hg : (wholeS stk (.app (.lam body) x)).good = true) (hc : (wholeS stk (.app (.lam body) x)).cl 0 = true) :
    Calls Try.prog 118 #[.pointer (some ⟨E, 0, none⟩), .pointer (some ⟨bf, 0, none⟩), .pointer (some ⟨bx, 0, none⟩), .agg #[d, h]] w (BrOut w E fuel v (runT v K n (wholeS stk (.app (.lam body) x)))) := by
  obtain ⟨ld, lc, rfl⟩ := hs.dform
  obtain ⟨lf, lb, rfl⟩ := hs.hform
  have hEl := hE.lt
  obtain ⟨W, hWd⟩ : ∃ W, W = ((w.alloc (.cells #[.pointer (some ⟨E, 0, none⟩)] 144)).alloc (.cells #[.pointer (some ⟨bf, 0, none⟩)] 60)).alloc (.cells #[.func (.func ld) #[] lc, .func (.func lf) #[] lb] 94) := ⟨_, rfl⟩
  have hBW : Below w.heap.size w W := by rw [hWd]; exact (((Below.refl _ _).alloc (Nat.le_refl _) _).alloc (by simp) _).alloc (by simp; omega) _
  have hgW : w.grownBy W (some E) := below_grown hBW _
  have re : RowAt W w.heap.size 144 #[.pointer (some ⟨E, 0, none⟩)] := by rw [hWd]; exact RowAt.old (RowAt.old (RowAt.new _ _ _) _) _
  have rs : RowAt W (w.heap.size + 1) 60 #[.pointer (some ⟨bf, 0, none⟩)] := by
    rw [hWd]
    have := RowAt.new (w.alloc (.cells #[.pointer (some ⟨E, 0, none⟩)] 144)) 60 #[.pointer (some ⟨bf, 0, none⟩)]
    rw [World.size_alloc] at this
    exact RowAt.old this _
  have rn : RowAt W (w.heap.size + 1 + 1) 94 #[.func (.func ld) #[] lc, .func (.func lf) #[] lb] := by
    rw [hWd]
    have := RowAt.new ((w.alloc (.cells #[.pointer (some ⟨E, 0, none⟩)] 144)).alloc (.cells #[.pointer (some ⟨bf, 0, none⟩)] 60)) 94 #[.func (.func ld) #[] lc, .func (.func lf) #[] lb]
    rwa [World.size_alloc, World.size_alloc] at this
  have hEW := hE.gr hBW
  have hFW := tr_gr hgW hF
  have hTW := tr_gr hgW hT
  have hsW := StkIn.gr hgW hs
  have HGW := hideT' hgW
  cases v with
  | true =>
    have hSW : StkIn W E (.snd (.lam body) :: stk) (.func (.func 142) #[] #[.pointer (some ⟨w.heap.size, 0, none⟩), .pointer (some ⟨w.heap.size + 1, 0, none⟩), .pointer (some ⟨w.heap.size + 1 + 1, 0, none⟩)]) (.func (.func 144) #[] #[.pointer (some ⟨w.heap.size + 1 + 1, 0, none⟩), .pointer (some ⟨w.heap.size + 1, 0, none⟩)]) :=
      ⟨_, _, _, bf, _, _, ⟨rfl, rfl⟩, ⟨by omega, by omega, by omega⟩, ⟨re, rs, rn⟩, hFW, hsW⟩
    have HC := hideT' (IHm (2 * x.sz + muS (.snd (.lam body) :: stk)) (by rw [muS_cons]; simp only [Fr.mu]; omega) n x bx (.snd (.lam body) :: stk) _ _ W hn (Nat.le_refl _) hEW hTW hSW (by simp only [stkOk, List.all_cons, Fr.fits, Lm.isLam, Bool.and_self, Bool.true_and]; exact hok) hg hc)
    have hr : runT true K n (wholeS (.snd (.lam body) :: stk) x) = runT true K n (wholeS stk (.app (.lam body) x)) := rfl
    rw [hr] at HC
    obtain ⟨r, hrr⟩ : ∃ r, r = runT true K n (wholeS stk (.app (.lam body) x)) := ⟨_, rfl⟩
    rw [← hrr] at HC ⊢
    have c0 : (((w.alloc (.cells #[.pointer (some ⟨E, 0, none⟩)] 144)).alloc (.cells #[.pointer (some ⟨bf, 0, none⟩)] 60)).alloc (.cells #[.func (.func ld) #[] lc, .func (.func lf) #[] lb] 94)).cell? ⟨E, 0, none⟩ = some (.func (.func 75) #[.pointer (some ⟨E, 0, none⟩)] #[]) := by rw [← hWd, cell_of_row _ _ _ _ _ _ hEW]; rfl
    clear hs hok hg hc hF hT re rs rn IH IHm hE hBW hgW hrr hr hFW hTW hsW hEW hSW hmu
    go_enter Try.func118, Try.ntmps118
    go_wp2_with fail
    rw [← hWd]
    refine HC.out.mono ?_
    rintro e w2 ⟨⟨p, q, rfl, hin⟩, hg2⟩
    have HF := hideT' (And.intro hin hg2)
    clear hin hg2 c0
    go_wp2
    go_ret2
    exact BrOut.back HF.out HGW.out rfl
  | false =>
    have HC := hideT' (head1_any E fuel K hf IH n body x bx w.heap.size (w.heap.size + 1) (w.heap.size + 1 + 1) bf stk _ _ W hn hEW (.func (.func 144) #[] #[.pointer (some ⟨w.heap.size + 1 + 1, 0, none⟩), .pointer (some ⟨w.heap.size + 1, 0, none⟩)]) _ _ rfl (by omega) (by omega) (by omega) re rs rn hFW hTW hsW hok hg hc)
    obtain ⟨r, hrr⟩ : ∃ r, r = runT false K n (wholeS stk (.app (.lam body) x)) := ⟨_, rfl⟩
    rw [← hrr] at HC ⊢
    have c0 : (((w.alloc (.cells #[.pointer (some ⟨E, 0, none⟩)] 144)).alloc (.cells #[.pointer (some ⟨bf, 0, none⟩)] 60)).alloc (.cells #[.func (.func ld) #[] lc, .func (.func lf) #[] lb] 94)).cell? ⟨E, 0, none⟩ = some (.func (.func 78) #[] #[]) := by rw [← hWd, cell_of_row _ _ _ _ _ _ hEW]; rfl
    clear hs hok hg hc hF hT re rs rn IH IHm hE hBW hgW hrr hFW hTW hsW hEW hmu
    go_enter Try.func118, Try.ntmps118
    go_wp2_with fail
    rw [← hWd]
    refine HC.out.mono ?_
    rintro e w2 ⟨⟨p, q, rfl, hin⟩, hg2⟩
    have HF := hideT' (And.intro hin hg2)
    clear hin hg2 c0
    go_wp2
    go_ret2
    exact BrOut.back HF.out HGW.out rfl
set_option maxHeartbeats 8000000 in
set_option maxRecDepth 100000 in
theorem bring1_any (E fuel : Nat) (v : Bool) (K M : Nat) (hf : fuel ≤ 1000) (IH : ∀ K', K' + 1 = K → ∀ M, BrS E fuel v K' M) (IHm : ∀ M', M' < M → BrS E fuel v K M') (n : Nat) (body x : Lm) (b be bs bn bx : Nat) (stk : List Fr) (d h : Value) (w : World) (hn : n + K = fuel) (hmu : 2 * x.sz + muS stk < M) (hE : EvAt w E v fuel n)
    (re : RowAt w be 144 #[.pointer (some ⟨E, 0, none⟩)]) (rs : RowAt w bs 60 #[.pointer (some ⟨bx, 0, none⟩)]) (rn : RowAt w bn 94 #[d, h]) (hF : TrIn w (fun y => y ≠ E) (.lam body) b) (hT : TrIn w (fun y => y ≠ E) x bx) (hs : StkIn w E stk d h) (hok : stkOk v stk = true)
    (hg : (wholeS stk (.app (.lam body) x)).good = true) (hc : (wholeS stk (.app (.lam body) x)).cl 0 = true) :
    Calls Try.prog 117 #[.pointer (some ⟨b, 0, none⟩), .pointer (some ⟨be, 0, none⟩), .pointer (some ⟨bs, 0, none⟩), .pointer (some ⟨bn, 0, none⟩)] w (BrOut w E fuel v (runT v K n (wholeS stk (.app (.lam body) x)))) := by
  obtain ⟨ld, lc, rfl⟩ := hs.dform
  obtain ⟨lf, lb, rfl⟩ := hs.hform
  have HC := hideT' (apply_any E fuel v K M hf IH IHm n body x b bx stk _ _ w hn hmu hE hF hT hs hok hg hc)
  obtain ⟨r, hr⟩ : ∃ r, r = runT v K n (wholeS stk (.app (.lam body) x)) := ⟨_, rfl⟩
  rw [← hr] at HC ⊢
  have c0 : w.cell? ⟨be, 0, none⟩ = some (.pointer (some ⟨E, 0, none⟩)) := by rw [cell_of_row _ _ _ _ _ _ re]; rfl
  have c1 : w.cell? ⟨bs, 0, none⟩ = some (.pointer (some ⟨bx, 0, none⟩)) := by rw [cell_of_row _ _ _ _ _ _ rs]; rfl
  have c2 : w.cell? ⟨bn, 0, none⟩ = some (.func (.func ld) #[] lc) := by rw [cell_of_row _ _ _ _ _ _ rn]; rfl
  have c3 : w.cell? ⟨bn, 1, none⟩ = some (.func (.func lf) #[] lb) := by rw [cell_of_row _ _ _ _ _ _ rn]; rfl
  clear hs hok hg hc hF hT re rs rn IH IHm hE hr hmu
  go_enter Try.func117, Try.ntmps117
  go_wp2_with fail
  refine HC.out.mono ?_
  rintro e w2 ⟨⟨p, q, rfl, hin⟩, hg2⟩
  have HF := hideT' (And.intro hin hg2)
  clear hin hg2 c0 c1 c2 c3
  go_wp2
  go_ret2
  exact BrOut.back HF.out (gr_refl _ _) rfl
theorem told1_any (b : Nat) (w : World) : Calls Try.prog 120 #[.pointer (some ⟨b, 0, none⟩)] w fun e w' => e = .returned (.tuple #[.pointer (some ⟨b, 0, none⟩), .bool true]) ∧ w' = w := by
  go_enter Try.func120, Try.ntmps120
  go_wp2
  go_ret2
  exact ⟨rfl, rfl⟩
/-- What the function 'do' of a stack answers of a lambda. -/
theorem do_fn (E fuel : Nat) (v : Bool) (K M : Nat) (hf : fuel ≤ 1000) (IH : ∀ K', K' + 1 = K → ∀ M, BrS E fuel v K' M) (IHm : ∀ M', M' < M → BrS E fuel v K M') (n : Nat) (body : Lm) (b : Nat) (stk : List Fr) (d h : Value) (w : World) (hn : n + K = fuel) (hmu : 2 * (Lm.lam body).sz + muS stk ≤ M) (hE : EvAt w E v fuel n) (hT : TrIn w (fun y => y ≠ E) (.lam body) b) (hs : StkIn w E stk d h) (hok : stkOk v stk = true)
    (hg : (wholeS stk (.lam body)).good = true) (hc : (wholeS stk (.lam body)).cl 0 = true) :
    ∃ lf lb, d = .func (.func lf) #[] lb ∧ (∀ args w, (callFunc lf args).run Try.prog w = .ok (.enter lf args) w) ∧ Calls Try.prog lf (#[.pointer (some ⟨b, 0, none⟩)] ++ lb) w (BrOut w E fuel v (runT v K n (wholeS stk (.lam body)))) := by
  cases stk with
  | nil =>
    obtain ⟨rfl, _⟩ := hs
    refine ⟨_, _, rfl, enters_told1, (told1_any b w).mono ?_⟩
    rintro e w' ⟨rfl, rfl⟩
    have hr : runT v K n (wholeS [] (.lam body)) = some (.lam body, n) := runT_end (Lm.stp_lam rfl)
    rw [hr]
    exact ⟨⟨_, _, rfl, rfl, b, rfl, hT, hE⟩, gr_refl _ _⟩
  | cons fr s => cases fr with
    | fst x =>
      obtain ⟨be, bs, bn, bx, d', h', ⟨rfl, _⟩, ⟨n1, n2, n3⟩, ⟨re, rs, rn⟩, hX, hs'⟩ := hs
      refine ⟨_, _, rfl, enters_bring1, ?_⟩
      exact bring1_any E fuel v K M hf IH IHm n body x b be bs bn bx s d' h' w hn (by have := (Lm.lam body).sz_pos; rw [muS_cons] at hmu; simp only [Fr.mu] at hmu; omega) hE re rs rn hT hX hs' (by simpa [stkOk, Fr.fits] using hok) hg hc
    | snd f =>
      obtain ⟨be, bs, bn, bx, d', h', ⟨rfl, _⟩, ⟨n1, n2, n3⟩, ⟨re, rs, rn⟩, hX, hs'⟩ := hs
      have hok' : (v = true ∧ f.isLam = true) ∧ stkOk v s = true := by simpa [stkOk, Fr.fits] using hok
      cases f with
      | var m => cases hok'.1.2
      | app p q => cases hok'.1.2
      | lam fb =>
        refine ⟨_, _, rfl, enters_apply1, ?_⟩
        exact apply1_any E fuel v K hf IH n fb (.lam body) b be bs bn bx s d' h' w hn hE n1 n2 n3 re rs rn hX hT hs' hok'.2 (fun _ => rfl) hg hc
set_option maxHeartbeats 8000000 in
set_option maxRecDepth 100000 in
theorem bring_step (E fuel : Nat) (v : Bool) (K : Nat) (hf : fuel ≤ 1000) (IH : ∀ K', K' + 1 = K → ∀ M, BrS E fuel v K' M) (M : Nat) (IHm : ∀ M', M' < M → BrS E fuel v K M') : BrS E fuel v K M := by
  intro n t b stk d h w hn hmu hE hT hs hok hg hc
  have hEl := hE.lt
  cases t with
  | var m =>
    have := whole_cl hc
    simp [Lm.cl] at this
    omega
  | lam body =>
    obtain ⟨lf, lb, rfl⟩ := hs.hform
    obtain ⟨ld0, lc0, hd0⟩ := hs.dform
    obtain ⟨W, hWd⟩ : ∃ W, W = (w.alloc (.cells #[.pointer (some ⟨E, 0, none⟩)] 144)).alloc (.cells #[d, .func (.func lf) #[] lb] 94) := ⟨_, rfl⟩
    have hBW : Below w.heap.size w W := by rw [hWd]; exact ((Below.refl _ _).alloc (Nat.le_refl _) _).alloc (by simp) _
    have hgW : w.grownBy W (some E) := below_grown hBW _
    obtain ⟨ld, lc, rfl, eg, hcall⟩ := do_fn E fuel v K M hf IH IHm n body b stk d _ W hn hmu (hE.gr hBW) (tr_gr hgW hT) (StkIn.gr hgW hs) hok hg hc
    clear hd0
    have HC := hideT' hcall
    have k0 := hT.kind
    have hbl := hT.lt
    simp only [Lm.kd] at k0
    obtain ⟨r, hrr⟩ : ∃ r, r = runT v K n (wholeS stk (.lam body)) := ⟨_, rfl⟩
    rw [← hrr] at HC ⊢
    have HGW := hideT' hgW
    clear hs hok hg hc hT IH IHm hE hBW hgW hrr hmu hcall
    go_enter Try.func75, Try.ntmps75
    go_wp2_with fail
    rw [← hWd]
    refine HC.out.mono ?_
    rintro e w2 ⟨⟨p, q, rfl, hin⟩, hg2⟩
    have HF := hideT' (And.intro hin hg2)
    clear hin hg2
    go_wp2
    go_ret2
    exact BrOut.back HF.out HGW.out rfl
  | app a c =>
    obtain ⟨lf, lb, rfl⟩ := hs.hform
    obtain ⟨ld, lc, rfl⟩ := hs.dform
    have k0 := hT.kind
    have hbl := hT.lt
    simp only [Lm.kd] at k0
    obtain ⟨o, cp, hpc, hkid⟩ := hT.parts
    simp only [Lm.kids, List.length_cons, List.length_nil, Nat.zero_add, Nat.reduceAdd] at hpc
    obtain ⟨g, ba, rfl, hgl, hgE, hca, hTa⟩ := hkid 0 a rfl
    have hbE : b ≠ E := hT.inP
    obtain ⟨g', bc, e', _, _, hcc, hTc⟩ := hkid 1 c rfl
    injection e' with e'
    injection e' with e'
    subst e'
    obtain ⟨W, hWd⟩ : ∃ W, W = ((w.alloc (.cells #[.pointer (some ⟨E, 0, none⟩)] 144)).alloc (.cells #[.func (.func ld) #[] lc, .func (.func lf) #[] lb] 94)).alloc (.cells #[.pointer (some ⟨bc, 0, none⟩)] 60) := ⟨_, rfl⟩
    have hBW : Below w.heap.size w W := by rw [hWd]; exact (((Below.refl _ _).alloc (Nat.le_refl _) _).alloc (by simp) _).alloc (by simp; omega) _
    have hgW : w.grownBy W (some E) := below_grown hBW _
    have re : RowAt W w.heap.size 144 #[.pointer (some ⟨E, 0, none⟩)] := by rw [hWd]; exact RowAt.old (RowAt.old (RowAt.new _ _ _) _) _
    have rn : RowAt W (w.heap.size + 1) 94 #[.func (.func ld) #[] lc, .func (.func lf) #[] lb] := by
      rw [hWd]
      have := RowAt.new (w.alloc (.cells #[.pointer (some ⟨E, 0, none⟩)] 144)) 94 #[.func (.func ld) #[] lc, .func (.func lf) #[] lb]
      rw [World.size_alloc] at this
      exact RowAt.old this _
    have rs : RowAt W (w.heap.size + 1 + 1) 60 #[.pointer (some ⟨bc, 0, none⟩)] := by
      rw [hWd]
      have := RowAt.new ((w.alloc (.cells #[.pointer (some ⟨E, 0, none⟩)] 144)).alloc (.cells #[.func (.func ld) #[] lc, .func (.func lf) #[] lb] 94)) 60 #[.pointer (some ⟨bc, 0, none⟩)]
      rwa [World.size_alloc, World.size_alloc] at this
    have hdr : Below W.heap.size W W.drew := ⟨rfl, rfl, rfl, Nat.le_refl _, fun _ _ => rfl⟩
    have hgD : w.grownBy W.drew (some E) := gr_below hgW hdr
    have hTaD : TrIn W.drew (fun y => y ≠ E) a ba := tr_drew (tr_gr hgW hTa)
    have hTcD : TrIn W.drew (fun y => y ≠ E) c bc := tr_drew (tr_gr hgW hTc)
    have hSW : StkIn W.drew E (.fst c :: stk) (.func (.func 117) #[] #[.pointer (some ⟨w.heap.size, 0, none⟩), .pointer (some ⟨w.heap.size + 1 + 1, 0, none⟩), .pointer (some ⟨w.heap.size + 1, 0, none⟩)]) (.func (.func 119) #[] #[.pointer (some ⟨w.heap.size + 1, 0, none⟩), .pointer (some ⟨w.heap.size + 1 + 1, 0, none⟩)]) :=
      ⟨_, _, _, bc, _, _, ⟨rfl, rfl⟩, ⟨by omega, by omega, by omega⟩, ⟨re, rs, rn⟩, hTcD, StkIn.gr hgD hs⟩
    have HC := hideT' (IHm (2 * a.sz + muS (.fst c :: stk)) (by rw [muS_cons]; simp only [Fr.mu]; simp only [Lm.sz] at hmu; omega) n a ba (.fst c :: stk) _ _ W.drew hn (Nat.le_refl _) ((hE.gr hBW).gr hdr) hTaD hSW (by simpa [stkOk, Fr.fits] using hok) hg hc)
    have hr : runT v K n (wholeS (.fst c :: stk) a) = runT v K n (wholeS stk (.app a c)) := rfl
    rw [hr] at HC
    obtain ⟨r, hrr⟩ : ∃ r, r = runT v K n (wholeS stk (.app a c)) := ⟨_, rfl⟩
    rw [← hrr] at HC ⊢
    have p3 : W.cell? ⟨b, 3, none⟩ = some (.slice (some ⟨g, 0, none⟩) 2 cp) := by rw [hBW.cell (p := ⟨b, 3, none⟩) hbl]; exact hpc
    have p0 : W.cell? ⟨g, 0, none⟩ = some (.pointer (some ⟨ba, 0, none⟩)) := by rw [hBW.cell (p := ⟨g, 0, none⟩) hgl]; exact hca
    have hbW : b < W.heap.size := by have := hBW.size; omega
    have hgWl : g < W.heap.size := by have := hBW.size; omega
    have hS : ∀ x, x < W.heap.size → W.drew.heap[x]? = W.heap[x]? := fun _ _ => rfl
    have r0 : W.cell? ⟨w.heap.size, 0, none⟩ = some (.pointer (some ⟨E, 0, none⟩)) := by rw [cell_of_row _ _ _ _ _ _ re]; rfl
    have hGl : w.heap.size < W.heap.size := re.lt
    have HGD := hideT' hgD
    clear hs hok hg hc hT IH IHm hE hBW hgW hrr hr hTa hTc hTaD hTcD hSW hmu hkid re rs rn hdr hgD
    go_enter Try.func75, Try.ntmps75
    go_wp2_with fail
    rw [← hWd]
    clear hca hcc hpc k0
    refine held_begin (fun w' => w'.cell? ⟨w.heap.size, 0, none⟩ = some (.pointer (some ⟨E, 0, none⟩)) ∧ w'.cell? ⟨b, 3, none⟩ = some (.slice (some ⟨g, 0, none⟩) 2 cp) ∧ w'.cell? ⟨g, 0, none⟩ = some (.pointer (some ⟨ba, 0, none⟩))) (by kernel_rfl) ?_
    have hS : W.drew.cell? ⟨w.heap.size, 0, none⟩ = some (.pointer (some ⟨E, 0, none⟩)) ∧ W.drew.cell? ⟨b, 3, none⟩ = some (.slice (some ⟨g, 0, none⟩) 2 cp) ∧ W.drew.cell? ⟨g, 0, none⟩ = some (.pointer (some ⟨ba, 0, none⟩)) := ⟨r0, p3, p0⟩
    refine held_valS 0 (some 27) rfl rfl (by kernel_rfl) (by kernel_rfl) (by kernel_rfl) noPanic_put rfl (.pointer (some ⟨E, 0, none⟩)) (fun w' h => by have q := h.1; go_simp) hS ?_
    simp only [Act.put, List.setIfInBounds_toArray, List.set_cons_zero, List.set_cons_succ]
    refine held_valS 1 (some 28) rfl rfl (by kernel_rfl) (by kernel_rfl) (by kernel_rfl) noPanic_put rfl (.pointer (some ⟨b, 0, none⟩)) (fun _ _ => by go_simp) hS ?_
    simp only [Act.put, List.setIfInBounds_toArray, List.set_cons_zero, List.set_cons_succ]
    refine held_valS 2 (some 29) rfl rfl (by kernel_rfl) (by kernel_rfl) (by kernel_rfl) noPanic_put rfl (.pointer (some ⟨b, 0, none⟩)) (fun _ _ => by go_simp) hS ?_
    simp only [Act.put, List.setIfInBounds_toArray, List.set_cons_zero, List.set_cons_succ]
    refine held_valS 3 (some 30) rfl rfl (by kernel_rfl) (by kernel_rfl) (by kernel_rfl) noPanic_put rfl (.pointer (some ⟨b, 3, none⟩)) (fun _ _ => by go_simp) hS ?_
    simp only [Act.put, List.setIfInBounds_toArray, List.set_cons_zero, List.set_cons_succ]
    refine held_valS 4 (some 31) rfl rfl (by kernel_rfl) (by kernel_rfl) (by kernel_rfl) noPanic_put rfl (.slice (some ⟨g, 0, none⟩) 2 cp) (fun w' h => by have q := h.2.1; go_simp) hS ?_
    simp only [Act.put, List.setIfInBounds_toArray, List.set_cons_zero, List.set_cons_succ]
    refine held_valS 5 (some 32) rfl rfl (by kernel_rfl) (by kernel_rfl) (by kernel_rfl) noPanic_put rfl (.pointer (some ⟨g, 0, none⟩)) (fun _ _ => by go_simp) hS ?_
    simp only [Act.put, List.setIfInBounds_toArray, List.set_cons_zero, List.set_cons_succ]
    refine held_valS 6 (some 33) rfl rfl (by kernel_rfl) (by kernel_rfl) (by kernel_rfl) noPanic_put rfl (.pointer (some ⟨ba, 0, none⟩)) (fun w' h => by have q := h.2.2; go_simp) hS ?_
    simp only [Act.put, List.setIfInBounds_toArray, List.set_cons_zero, List.set_cons_succ]
    refine held_valS 7 (some 34) rfl rfl (by kernel_rfl) (by kernel_rfl) (by kernel_rfl) noPanic_put rfl (.func (.func 117) #[] #[.pointer (some ⟨w.heap.size, 0, none⟩), .pointer (some ⟨w.heap.size + 1 + 1, 0, none⟩), .pointer (some ⟨w.heap.size + 1, 0, none⟩)]) (fun _ _ => by go_simp) hS ?_
    simp only [Act.put, List.setIfInBounds_toArray, List.set_cons_zero, List.set_cons_succ]
    refine held_valS 8 (some 35) rfl rfl (by kernel_rfl) (by kernel_rfl) (by kernel_rfl) noPanic_put rfl (.func (.func 119) #[] #[.pointer (some ⟨w.heap.size + 1, 0, none⟩), .pointer (some ⟨w.heap.size + 1 + 1, 0, none⟩)]) (fun _ _ => by go_simp) hS ?_
    simp only [Act.put, List.setIfInBounds_toArray, List.set_cons_zero, List.set_cons_succ]
    refine held_valS 9 (some 36) rfl rfl (by kernel_rfl) (by kernel_rfl) (by kernel_rfl) noPanic_put rfl (.agg #[.func (.func 117) #[] #[.pointer (some ⟨w.heap.size, 0, none⟩), .pointer (some ⟨w.heap.size + 1 + 1, 0, none⟩), .pointer (some ⟨w.heap.size + 1, 0, none⟩)], .func (.func 119) #[] #[.pointer (some ⟨w.heap.size + 1, 0, none⟩), .pointer (some ⟨w.heap.size + 1 + 1, 0, none⟩)]]) (fun _ _ => by go_simp) hS ?_
    simp only [Act.put, List.setIfInBounds_toArray, List.set_cons_zero, List.set_cons_succ]
    refine held_call 10 (some 37) (by kernel_rfl) rfl rfl rfl 75 (_) (by go_simp) _ (HC.out) ?_
    rintro e w2 ⟨⟨p, q, rfl, hin⟩, hg2⟩
    have hS2 : w2.cell? ⟨w.heap.size, 0, none⟩ = some (.pointer (some ⟨E, 0, none⟩)) ∧ w2.cell? ⟨b, 3, none⟩ = some (.slice (some ⟨g, 0, none⟩) 2 cp) ∧ w2.cell? ⟨g, 0, none⟩ = some (.pointer (some ⟨ba, 0, none⟩)) := ⟨by rw [World.cell?_of_block (w := W) (a := ⟨w.heap.size, 0, none⟩) (hg2.block _ hGl (by intro e; injection e with e; have e : w.heap.size = E := e; omega))]; exact r0, by rw [World.cell?_of_block (w := W) (a := ⟨b, 3, none⟩) (hg2.block _ hbW (by intro e; injection e with e; exact hbE e))]; exact p3, by rw [World.cell?_of_block (w := W) (a := ⟨g, 0, none⟩) (hg2.block _ hgWl (by intro e; injection e with e; exact hgE e))]; exact p0⟩
    refine ⟨_, rfl, hS2, ?_⟩
    simp only [Act.put, List.setIfInBounds_toArray, List.set_cons_zero, List.set_cons_succ]
    refine held_valS 11 (some 38) rfl rfl (by kernel_rfl) (by kernel_rfl) (by kernel_rfl) noPanic_put rfl (.pointer p) (fun _ _ => by go_simp) hS2 ?_
    simp only [Act.put, List.setIfInBounds_toArray, List.set_cons_zero, List.set_cons_succ]
    refine held_valS 12 (some 39) rfl rfl (by kernel_rfl) (by kernel_rfl) (by kernel_rfl) noPanic_put rfl (.bool q) (fun _ _ => by go_simp) hS2 ?_
    simp only [Act.put, List.setIfInBounds_toArray, List.set_cons_zero, List.set_cons_succ]
    refine held_valS 13 (some 6) rfl rfl (by kernel_rfl) (by kernel_rfl) (by kernel_rfl) noPanic_put rfl (.pointer p) (fun _ _ => by go_simp) hS2 ?_
    simp only [Act.put, List.setIfInBounds_toArray, List.set_cons_zero, List.set_cons_succ]
    refine held_valS 14 (some 7) rfl rfl (by kernel_rfl) (by kernel_rfl) (by kernel_rfl) noPanic_put rfl (.bool q) (fun _ _ => by go_simp) hS2 ?_
    simp only [Act.put, List.setIfInBounds_toArray, List.set_cons_zero, List.set_cons_succ]
    refine wpAnyH_done (by kernel_rfl) ?_ _
    refine NoPanic.normal ?_
    have HF := hideT' (And.intro hin hg2)
    clear hin hg2 hS hS2 r0 p3 p0
    go_wp2
    go_ret2
    exact BrOut.back HF.out HGD.out rfl
theorem bring_all (E fuel : Nat) (v : Bool) (hf : fuel ≤ 1000) : ∀ K M, BrS E fuel v K M := by
  intro K
  induction K with
  | zero =>
    intro M
    induction M using Nat.strongRecOn with
    | _ M ihm => exact bring_step E fuel v 0 hf (fun K' e => by omega) M ihm
  | succ K ih =>
    intro M
    induction M using Nat.strongRecOn with
    | _ M ihm => exact bring_step E fuel v (K + 1) hf (fun K' e => by have : K' = K := (by omega); subst this; exact ih) M ihm
end Go.Proofs.Ytbnagagdboeedaa

/-
  What told, ValueTerm and HeadTerm of the program answer.
-/
namespace Go.Proofs.Ytbnagagdboeedaa
open Go.RowKit BL
set_option linter.unusedVariables false

theorem zero_thenV : (∀ w, (zeroValue 94).run Try.prog w = .ok (.agg #[.nilFunc, .nilFunc]) w) := (zero_of_info (n := 2) (by kernel_rfl)).1
theorem zero_evV : (∀ w, (zeroValue 91).run Try.prog w = .ok (.agg #[.nilFunc, .int .i64 0, .int .i64 0]) w) := (zero_of_info (n := 3) (by kernel_rfl)).1
theorem all2 (a b : Value) (ha : a.oneCell' = true) (hb : b.oneCell' = true) : (#[a, b] : Array Value).all (·.oneCell') = true := Array.all_eq_true_iff_forall_mem.2 (fun v hv => by
  simp at hv
  rcases hv with rfl | rfl
  · exact ha
  · exact hb)
theorem all3 (a b c : Value) (ha : a.oneCell' = true) (hb : b.oneCell' = true) (hc : c.oneCell' = true) : (#[a, b, c] : Array Value).all (·.oneCell') = true := Array.all_eq_true_iff_forall_mem.2 (fun v hv => by
  simp at hv
  rcases hv with rfl | rfl | rfl
  · exact ha
  · exact hb
  · exact hc)
theorem one_ev : (Try.prog.info? 91).map (·.size) = some 3 := by kernel_rfl
/-- Two cells are written whole. -/
theorem store_2 {ops : Array Oper} {rest : List Oper} {o : Oper} {a : Act} {w : World} {Q : Exit → Act → World → Prop} (hgd : o.guard = none) (T : TypeId) (x y : Operand) (ho : o.op = .store T x y) (hd : o.dst = none) (hs3 : (Try.prog.info? T).map (·.size) = some 2)
    (b : Nat) (cs : Array Value) (h3 : cs.size = 2) (hone : cs.all (·.oneCell') = true) (hx : a.eval x = .pointer (some ⟨b, 0, none⟩)) (hy : a.eval y = .agg cs) (c0 : Array Value) (h0 : c0.size = 2) (hN : RowAt w b T c0)
    (h : ∀ w', RowAt w' b T cs → w.grownBy w' (some b) → w'.heap.size = w.heap.size → wpList Try.prog ops Q rest a w') : wpList Try.prog ops Q (o :: rest) a w := by
  refine wpList_store_row hgd T x y ho b cs hx hy T c0 hN (by rw [hs3, h3]) (by rw [h0, h3]) hone ?_
  rw [hd]
  exact h _ (setRow_heap w b _ _ _ _ hN) ⟨rfl, rfl, rfl, by simp, fun k _ hne => setRow_other w b k _ (by intro e; exact hne (by rw [e]))⟩ (by simp)
theorem new_below {w w1 : World} {o : Obj} (hg : (w.alloc o).grownBy w1 (some w.heap.size)) : Below w.heap.size w w1 :=
  ((Below.refl w.heap.size w).alloc (Nat.le_refl _) o).grown hg (by simp) (fun k e => by cases e; exact Nat.le_refl _)
def EvO (v : Bool) (l : List Nd) (fuel : Int) : Option (Lm × Nat) := match clR l with
  | none => none
  | some t => if 0 ≤ fuel ∧ fuel ≤ 1000 then runT v fuel.toNat 0 t else none
def EvT (v : Bool) (l : List Nd) (fuel : Int) : Option Lm := (EvO v l fuel).map Prod.fst
def EvTN (v : Bool) (l : List Nd) (fuel : Int) : Int := match EvO v l fuel with
  | none => 0
  | some (_, j) => (j : Int)
def EvOut (v : Bool) (w : World) (l : List Nd) (fuel : Int) (e : Ending) (w' : World) : Prop := ∃ u, e = .returned (.tuple #[u, .int .i64 (EvTN v l fuel), .bool (toldB (EvT v l fuel))]) ∧ OwnR w' w.heap.size u 57 termL 3 (toldL (EvT v l fuel))
theorem EvOut.bad {v : Bool} {w w' : World} {l : List Nd} {fuel : Int} (h : EvO v l fuel = none) : EvOut v w l fuel (.returned (.tuple #[.slice none 0 0, .int .i64 0, .bool false])) w' := by
  refine ⟨.slice none 0 0, by unfold EvTN EvT; rw [h]; rfl, by unfold EvT; rw [h]; exact World.ownsRow_nil _ _ _ _⟩
theorem EvOut.good {v : Bool} {w w1 w' : World} {l : List Nd} {fuel : Int} {t : Lm} {j : Nat} {u : Value} (h : EvO v l fuel = some (t, j)) (hg : t.good = true) (hO : OwnR w' w1.heap.size u 57 termL 3 (tri (t.flat 0 (-1)))) (hs : w.heap.size ≤ w1.heap.size) : EvOut v w l fuel (.returned (.tuple #[u, .int .i64 (j : Int), .bool true])) w' := by
  refine ⟨u, by unfold EvTN EvT; rw [h]; simp [toldB, hg], ?_⟩
  unfold EvT
  rw [h]
  simp only [Option.map_some, toldL, hg, if_true]
  exact ⟨hO.1, hO.2.imp id fun ⟨g, cap, cur, h1, h2, h3⟩ => ⟨g, cap, cur, h1, Nat.le_trans hs h2, h3⟩⟩
theorem EvO_l {v : Bool} {l : List Nd} {k : Int} (h : clR l = none) : EvO v l k = none := by unfold EvO; rw [h]
theorem EvO_k {v : Bool} {l : List Nd} {k : Int} (h : ¬ (0 ≤ k ∧ k ≤ 1000)) : EvO v l k = none := by unfold EvO; cases clR l <;> simp [h]
theorem EvO_ok {v : Bool} {l : List Nd} {F : Nat} {t : Lm} (h1 : clR l = some t) (h : F ≤ 1000) : EvO v l (F : Int) = runT v F 0 t := by
  unfold EvO; rw [h1]; simp only; rw [if_pos ⟨by omega, by omega⟩, Int.toNat_natCast]
/-- What told answers of a run. -/
def TdOut (w : World) (E : Nat) (r : Option (Lm × Nat)) (e : Ending) (w' : World) : Prop := (match r with
  | none => e = .returned (.tuple #[.slice none 0 0, .int .i64 0, .bool false])
  | some (s, m) => s.good = true ∧ ∃ u, e = .returned (.tuple #[u, .int .i64 (m : Int), .bool true]) ∧ OwnR w' w.heap.size u 57 termL 3 (tri (s.flat 0 (-1)))) ∧ w.grownBy w' (some E)
set_option maxHeartbeats 4000000 in
theorem told_no (E : Nat) (p : Option Addr) (w : World) : Calls Try.prog 76 #[.pointer (some ⟨E, 0, none⟩), .pointer p, .bool false] w (TdOut w E none) := by
  go_enter Try.func76, Try.ntmps76
  go_wp2
  go_ret3
  exact ⟨rfl, gr_refl _ _⟩
set_option maxHeartbeats 4000000 in
theorem told_out (E : Nat) (p : Option Addr) (f : Int) (w : World) (hf : ¬ (0 ≤ f ∧ f ≤ 1000)) (hE : E < w.heap.size) (c1 : w.cell? ⟨E, 1, none⟩ = some (.int .i64 f)) : Calls Try.prog 76 #[.pointer (some ⟨E, 0, none⟩), .pointer p, .bool true] w (TdOut w E none) := by
  by_cases h0 : f < 0
  · go_enter Try.func76, Try.ntmps76
    go_wp2
    go_ret3
    exact ⟨rfl, gr_refl _ _⟩
  · have h9 : 1000 < f := by omega
    go_enter Try.func76, Try.ntmps76
    go_wp2
    go_ret3
    exact ⟨rfl, gr_refl _ _⟩
set_option maxHeartbeats 8000000 in
set_option maxRecDepth 100000 in
theorem told_in (E fuel : Nat) (v : Bool) (hf : fuel ≤ 1000) (t : Lm) (b : Nat) (w : World) (hE : EvAt w E v fuel 0) (hT : TrIn w (fun y => y ≠ E) t b) (hg : t.good = true) (hc : t.cl 0 = true) :
    Calls Try.prog 76 #[.pointer (some ⟨E, 0, none⟩), .pointer (some ⟨b, 0, none⟩), .bool true] w (TdOut w E (runT v fuel 0 t)) := by
  have hEl := hE.lt
  have c1 : w.cell? ⟨E, 1, none⟩ = some (.int .i64 (fuel : Int)) := by rw [cell_of_row _ _ _ _ _ _ hE]; rfl
  have h0 : ¬ (fuel : Int) < 0 := by omega
  have h9 : ¬ (1000 : Int) < (fuel : Int) := by omega
  have HC : Hid (∀ W, Below w.heap.size w W → Calls Try.prog 75 #[.pointer (some ⟨E, 0, none⟩), .pointer (some ⟨b, 0, none⟩), .agg #[.func (.func 120) #[] #[], .func (.func 121) #[] #[]]] W (BrOut W E fuel v (runT v fuel 0 t))) := fun W hBW => by
    have hgW : w.grownBy W (some E) := below_grown hBW _
    exact bring_all E fuel v hf fuel (2 * t.sz + muS []) 0 t b [] (.func (.func 120) #[] #[]) (.func (.func 121) #[] #[]) W (by omega) (Nat.le_refl _) (hE.gr hBW) (tr_gr hgW hT) ⟨rfl, rfl⟩ rfl hg hc
  have HGD : Hid (∀ s m, runT v fuel 0 t = some (s, m) → s.good = true) := fun s m h => (runT_good hg hc h).1
  obtain ⟨r, hr⟩ : ∃ r, r = runT v fuel 0 t := ⟨_, rfl⟩
  rw [← hr] at HC HGD ⊢
  have hz := zero_thenV
  have HN : Hid (RowAt (w.alloc (.cells #[.nilFunc, .nilFunc] 94)) w.heap.size 94 #[.nilFunc, .nilFunc]) := RowAt.new _ _ _
  clear hE hT hg hc hr
  go_enter Try.func76, Try.ntmps76
  go_wp2_with (refine store_2 rfl 94 _ _ rfl rfl one_then w.heap.size #[.func (.func 120) #[] #[], .func (.func 121) #[] #[]] rfl (all2 _ _ rfl rfl) rfl rfl #[.nilFunc, .nilFunc] rfl HN.out ?_; intro w1 hR1 hg1 hs1; have q0 : w1.cell? ⟨w.heap.size, 0, none⟩ = some (.func (.func 120) #[] #[]) := (by rw [cell_of_row _ _ _ _ _ _ hR1]; rfl); have q1 : w1.cell? ⟨w.heap.size, 1, none⟩ = some (.func (.func 121) #[] #[]) := (by rw [cell_of_row _ _ _ _ _ _ hR1]; rfl); have HB1 := hideT' (new_below hg1); clear hR1 hg1 hs1)
  refine (HC.out w1 HB1.out).mono ?_
  rintro e w2 ⟨⟨p, q, rfl, hin⟩, hg2⟩
  have HGW : Hid (w.grownBy w1 (some E)) := below_grown HB1.out _
  have HG2 : Hid (w.grownBy w2 (some E)) := gr_trans HGW.out hg2
  have hs2 := hg2.size
  have hsw := HGW.out.size
  cases r with
  | none =>
    have hq : q = false := hin
    subst hq
    clear hin hg2
    go_wp2
    go_ret3
    exact ⟨rfl, HG2.out⟩
  | some sm =>
    obtain ⟨s, m⟩ := sm
    obtain ⟨rfl, b', rfl, hT2, hE2⟩ := hin
    have hsg := HGD.out s m rfl
    have HC3 := hideT' (tellTree_any s b' _ w2 hT2 (by have := (Lm.good_sz hsg).1; omega))
    rw [show ToldT w2 s = ToldT w2 s from rfl] at HC3
    have HE2 := hideT' hE2
    have HSG := hideT' hsg
    clear hg2 hT2 hE2 hsg
    go_wp2_with fail
    refine HC3.out.mono ?_
    rintro e w3 ⟨⟨u, rfl, hO⟩, hB3⟩
    rw [HSG.out]
    rw [HSG.out, if_pos rfl] at hO
    have hE3 := HE2.out.gr hB3
    have c2 : w3.cell? ⟨E, 2, none⟩ = some (.int .i64 (m : Int)) := by rw [cell_of_row _ _ _ _ _ _ hE3]; rfl
    have HF : Hid (OwnR w3 w.heap.size u 57 termL 3 (tri (s.flat 0 (-1))) ∧ w.grownBy w3 (some E)) := ⟨⟨hO.1, hO.2.imp id fun ⟨g, cap, cur, h1, h2, h3⟩ => ⟨g, cap, cur, h1, by omega, h3⟩⟩, gr_below HG2.out hB3⟩
    clear hO hB3 hE3
    go_wp2_with fail
    go_quiet (fail)
    go_wp2
    go_ret3
    exact ⟨⟨HSG.out, u, rfl, HF.out.1⟩, ⟨HF.out.2.os, HF.out.2.tape, HF.out.2.output, HF.out.2.size, HF.out.2.block⟩⟩
theorem TdOut.out {v : Bool} {w w1 w' : World} {E : Nat} {r : Option (Lm × Nat)} {l : List Nd} {f : Int} {e : Ending} (h : TdOut w1 E r e w') (hr : EvO v l f = r) (hs : w.heap.size ≤ w1.heap.size) : EvOut v w l f e w' := by
  obtain ⟨h, _⟩ := h
  cases r with
  | none => have h : e = _ := h; subst h; exact EvOut.bad hr
  | some sm =>
    obtain ⟨s, m⟩ := sm
    obtain ⟨hg, u, rfl, hO⟩ := h
    exact EvOut.good hr hg hO hs
theorem TdOut.form {w w' : World} {E : Nat} {r : Option (Lm × Nat)} {e : Ending} (h : TdOut w E r e w') : ∃ (u : Value) (m : Int) (q : Bool), e = .returned (.tuple #[u, .int .i64 m, .bool q]) := by
  obtain ⟨h, _⟩ := h
  cases r with
  | none => exact ⟨_, _, _, h⟩
  | some sm => obtain ⟨s, m⟩ := sm; obtain ⟨_, u, h, _⟩ := h; exact ⟨_, _, _, h⟩
/-- told, behind closedTerm. -/
theorem told_closed (v : Bool) (E : Nat) (f : Int) (l : List Nd) (w0 w : World) (p : Option Addr) (q : Bool) (hE : RowAt w E 91 #[argV v E, .int .i64 f, .int .i64 0]) (hs : E < w0.heap.size) (hw : w0.heap.size ≤ w.heap.size)
    (h : ClAns w0 l (.returned (.tuple #[.pointer p, .bool q])) w) : Calls Try.prog 76 #[.pointer (some ⟨E, 0, none⟩), .pointer p, .bool q] w fun e w' => TdOut w E (EvO v l f) e w' := by
  rcases h with ⟨p', e, hn⟩ | ⟨t, b, e, hr, hT⟩
  · have hq : q = false := by injection e with e; injection e with e; injection e with e; simp_all
    subst hq
    rw [EvO_l hn]
    exact told_no E p w
  · have hpq : p = some ⟨b, 0, none⟩ ∧ q = true := by injection e with e; injection e with e; simp_all
    obtain ⟨rfl, rfl⟩ := hpq
    by_cases hf : 0 ≤ f ∧ f ≤ 1000
    · obtain ⟨F, rfl⟩ : ∃ F : Nat, f = (F : Int) := ⟨f.toNat, by omega⟩
      have h1 := clR_some hr
      rw [EvO_ok hr (by omega)]
      exact told_in E F v (by omega) t b w hE (TrIn.mono (fun x hx _ => by omega) hT) (readP'_facts h1.1).2.2.2.2 h1.2.2
    · rw [EvO_k hf]
      exact told_out E _ f w hf hE.lt (by rw [cell_of_row _ _ _ _ _ _ hE]; rfl)
set_option maxHeartbeats 8000000 in
set_option maxRecDepth 100000 in
theorem implValueTerm_ev (l : List Nd) (fuel : Int) (v : Value) (w : World) (hv : NdIn w v l) (hl : l.length ≤ 1048576) :
    Calls Try.prog 37 #[v, .int .i64 fuel] w fun e w' => EvOut true w l fuel e w' ∧ Below w.heap.size w w' := by
  have hmf : ∀ (fn : Fn) (first cap : Array Value) (w : World), (Instr.makeFunc fn first cap).run Try.prog w = .ok (.func fn first cap) w := fun _ _ _ _ => rfl
  have hz := zero_evV
  have HCF : Hid (∀ W, Below w.heap.size w W → Calls Try.prog 77 #[v] W fun e w' => ClAns W l e w' ∧ Below W.heap.size W w') := fun W hB => closedTerm_any l v W (hv.below hB) hl
  have HN : Hid (RowAt (w.alloc (.cells #[.nilFunc, .int .i64 0, .int .i64 0] 91)) w.heap.size 91 #[.nilFunc, .int .i64 0, .int .i64 0]) := RowAt.new _ _ _
  clear hv
  go_enter Try.func37, Try.ntmps37
  go_wp2_with (first | (refine store_3 rfl 91 _ _ rfl rfl one_ev w.heap.size #[.nilFunc, .int .i64 fuel, .int .i64 0] rfl (all3 _ _ _ rfl rfl rfl) rfl rfl #[.nilFunc, .int .i64 0, .int .i64 0] rfl HN.out ?_; intro w1 hR1 hg1 hs1; have HR1 := hideT' hR1; have HB1 := hideT' (new_below hg1); clear hR1 hg1 hs1) | (refine store_at rfl _ _ _ rfl rfl w.heap.size 0 (.func (.func 75) #[.pointer (some ⟨w.heap.size, 0, none⟩)] #[]) rfl rfl (by kernel_rfl) rfl 91 #[.nilFunc, .int .i64 fuel, .int .i64 0] HR1.out (show 0 < 3 by omega) ?_; intro W hR2 hg2 hs2; have HRE : Hid (RowAt W w.heap.size 91 #[argV true w.heap.size, .int .i64 fuel, .int .i64 0]) := hR2; have HBW : Hid (Below w.heap.size w W) := HB1.out.grown hg2 HB1.out.size (fun k e => by cases e; exact Nat.le_refl _); clear hR2 hg2 hs2))
  refine (HCF.out W HBW.out).mono ?_
  rintro e w2 ⟨hans, hB2⟩
  have hcl : ∃ p q, e = .returned (.tuple #[.pointer p, .bool q]) := by
    rcases hans with ⟨p, e, _⟩ | ⟨t, b, e, _⟩
    · exact ⟨_, _, e⟩
    · exact ⟨_, _, e⟩
  obtain ⟨p, q, rfl⟩ := hcl
  have HR2 := hideT' (HRE.out.below hB2 HRE.out.lt)
  have HT := hideT' (told_closed true w.heap.size fuel l W w2 p q HR2.out HRE.out.lt hB2.size hans)
  have HB2 : Hid (Below w.heap.size w w2) := HBW.out.trans (hB2.mono HBW.out.size)
  clear hans hB2
  go_wp2_with fail
  refine HT.out.mono ?_
  rintro e w3 hT3
  obtain ⟨u, m, q3, rfl⟩ := hT3.form
  have HF : Hid (EvOut true w l fuel (.returned (.tuple #[u, .int .i64 m, .bool q3])) w3 ∧ Below w.heap.size w w3) := ⟨hT3.out rfl HB2.out.size, HB2.out.grown hT3.2 HB2.out.size (fun k e => by cases e; exact Nat.le_refl _)⟩
  clear hT3
  go_wp2
  go_ret3
  exact HF.out
set_option maxHeartbeats 8000000 in
set_option maxRecDepth 100000 in
theorem implHeadTerm_ev (l : List Nd) (fuel : Int) (v : Value) (w : World) (hv : NdIn w v l) (hl : l.length ≤ 1048576) :
    Calls Try.prog 39 #[v, .int .i64 fuel] w fun e w' => EvOut false w l fuel e w' ∧ Below w.heap.size w w' := by
  have hz := zero_evV
  have HCF : Hid (∀ W, Below w.heap.size w W → Calls Try.prog 77 #[v] W fun e w' => ClAns W l e w' ∧ Below W.heap.size W w') := fun W hB => closedTerm_any l v W (hv.below hB) hl
  have HN : Hid (RowAt (w.alloc (.cells #[.nilFunc, .int .i64 0, .int .i64 0] 91)) w.heap.size 91 #[.nilFunc, .int .i64 0, .int .i64 0]) := RowAt.new _ _ _
  clear hv
  go_enter Try.func39, Try.ntmps39
  go_wp2_with (first | (refine store_3 rfl 91 _ _ rfl rfl one_ev w.heap.size #[.nilFunc, .int .i64 fuel, .int .i64 0] rfl (all3 _ _ _ rfl rfl rfl) rfl rfl #[.nilFunc, .int .i64 0, .int .i64 0] rfl HN.out ?_; intro w1 hR1 hg1 hs1; have HR1 := hideT' hR1; have HB1 := hideT' (new_below hg1); clear hR1 hg1 hs1) | (refine store_at rfl _ _ _ rfl rfl w.heap.size 0 (.func (.func 78) #[] #[]) rfl rfl (by kernel_rfl) rfl 91 #[.nilFunc, .int .i64 fuel, .int .i64 0] HR1.out (show 0 < 3 by omega) ?_; intro W hR2 hg2 hs2; have HRE : Hid (RowAt W w.heap.size 91 #[argV false w.heap.size, .int .i64 fuel, .int .i64 0]) := hR2; have HBW : Hid (Below w.heap.size w W) := HB1.out.grown hg2 HB1.out.size (fun k e => by cases e; exact Nat.le_refl _); clear hR2 hg2 hs2))
  refine (HCF.out W HBW.out).mono ?_
  rintro e w2 ⟨hans, hB2⟩
  have hcl : ∃ p q, e = .returned (.tuple #[.pointer p, .bool q]) := by
    rcases hans with ⟨p, e, _⟩ | ⟨t, b, e, _⟩
    · exact ⟨_, _, e⟩
    · exact ⟨_, _, e⟩
  obtain ⟨p, q, rfl⟩ := hcl
  have HR2 := hideT' (HRE.out.below hB2 HRE.out.lt)
  have HT := hideT' (told_closed false w.heap.size fuel l W w2 p q HR2.out HRE.out.lt hB2.size hans)
  have HB2 : Hid (Below w.heap.size w w2) := HBW.out.trans (hB2.mono HBW.out.size)
  clear hans hB2
  go_wp2_with fail
  refine HT.out.mono ?_
  rintro e w3 hT3
  obtain ⟨u, m, q3, rfl⟩ := hT3.form
  have HF : Hid (EvOut false w l fuel (.returned (.tuple #[u, .int .i64 m, .bool q3])) w3 ∧ Below w.heap.size w w3) := ⟨hT3.out rfl HB2.out.size, HB2.out.grown hT3.2 HB2.out.size (fun k e => by cases e; exact Nat.le_refl _)⟩
  clear hT3
  go_wp2
  go_ret3
  exact HF.out
end Go.Proofs.Ytbnagagdboeedaa

/-
  What lfRun, lfTold, ValueTerm and HeadTerm of the model answer.
-/
namespace Go.Proofs.Ytbnagagdboeedaa
open Go.RowKit BL
set_option linter.unusedVariables false

theorem res_lc_tmp2 {fn : Func} {x u s : Tmp} (h : fn.results = #[.cell x 54, .tmp u, .tmp s]) (tmps : Array Value) (w : World) (b : Nat) (k n : Int) (z v1 v2 : Value)
    (hp : tmps.getD x undef = .pointer (some ⟨b, 0, none⟩)) (hv1 : tmps.getD u undef = v1) (hv2 : tmps.getD s undef = v2) (hN : RowAt w b 54 (lcC k n z)) : (results fn tmps).run Try.prog w = .ok (.tuple #[.agg (lcC k n z), v1, v2]) w := by
  simp only [results, h]
  simp [Sem.run_bind, Result.andThen]
  simp only [Array.getD_eq_getD_getElem?] at hp hv1 hv2
  rw [hp, hv1, hv2]
  simp only [asAddr, Sem.run_pure, run_loadVar_row w b 54 54 (lcC k n z) (0, 0) _ hN Try.underlying54 rfl zero_lcT.2]
def RnOut (w : World) (r : Option (Lm × Nat)) (P : Nat → Prop) (e : Ending) (w' : World) : Prop := match r with
  | none => ∃ k n o m c i, e = .returned (.tuple #[.agg (lcC k n (.slice o m c)), .int .i64 i, .bool false])
  | some (s, j) => ∃ z', e = .returned (.tuple #[.agg (lcC s.kd s.nm z'), .int .i64 (j : Int), .bool true]) ∧ LcIn w' (fun x => P x ∨ w.heap.size ≤ x) s z'
set_option maxHeartbeats 16000000 in
set_option maxRecDepth 100000 in
theorem lfRun_any (v : Bool) (t : Lm) (z : Value) (P : Nat → Prop) (F : Nat) (w : World) (hF : F ≤ 1000) (hz : LcIn w P t z) (hg : t.good = true) (hc : t.cl 0 = true) :
    Calls Try.prog 88 #[.agg (lcC t.kd t.nm z), .int .i64 (F : Int), .bool v] w fun e w' => RnOut w (runT v F 0 t) P e w' ∧ Below w.heap.size w w' := by
  have hz0 := zero_lcT.1
  obtain ⟨oz, cz, rfl⟩ := hz.form
  obtain ⟨kd, hkd⟩ : ∃ kd, kd = t.kd := ⟨_, rfl⟩
  obtain ⟨nm, hnm⟩ : ∃ nm, nm = t.nm := ⟨_, rfl⟩
  obtain ⟨ln, hln⟩ : ∃ ln, ln = t.kids.length := ⟨_, rfl⟩
  obtain ⟨W, hWd⟩ : ∃ W, W = (w.alloc (.cells #[.int .i64 kd, .int .i64 nm, .slice oz ln cz] 54)).alloc (.cells #[.int .i64 0, .int .i64 0, .slice none 0 0] 54) := ⟨_, rfl⟩
  have hBW : Below w.heap.size w W := by rw [hWd]; exact ((Below.refl _ _).alloc (Nat.le_refl _) _).alloc (by simp) _
  have hWs : W.heap.size = w.heap.size + 2 := by rw [hWd]; simp
  have RT : RowAt W w.heap.size 54 #[.int .i64 kd, .int .i64 nm, .slice oz ln cz] := by rw [hWd]; exact RowAt.old (RowAt.new _ _ _) _
  have RZ : RowAt W (w.heap.size + 1) 54 #[.int .i64 0, .int .i64 0, .slice none 0 0] := by
    rw [hWd]
    have := RowAt.new (w.alloc (.cells #[.int .i64 kd, .int .i64 nm, .slice oz ln cz] 54)) 54 #[.int .i64 0, .int .i64 0, .slice none 0 0]
    rwa [World.size_alloc] at this
  have ZT : LcIn W (fun y => (P y ∧ y < w.heap.size) ∨ w.heap.size + 2 ≤ y) t (.slice oz ln cz) := by rw [hln]; exact LcIn.keep (w := w) hBW.size (fun y _ hl => hBW.block y hl) (fun y h hl => .inl ⟨h, hl⟩) hz
  have HS0 : Hid (LcIn W (fun y => (P y ∧ y < w.heap.size) ∨ w.heap.size + 2 ≤ y) t (.slice oz ln cz) ∧ t.good = true ∧ t.cl 0 = true ∧ RowAt W w.heap.size 54 (lcC t.kd t.nm (.slice oz ln cz)) ∧ RowAt W (w.heap.size + 1) 54 #[.int .i64 0, .int .i64 0, .slice none 0 0] ∧ Below w.heap.size w W) := ⟨ZT, hg, hc, by rw [← hkd, ← hnm]; exact RT, RZ, hBW⟩
  have HLN := hideT' hln
  rw [← hkd, ← hnm, ← hln]
  obtain ⟨R, hR⟩ : ∃ R, R = runT v F 0 t := ⟨_, rfl⟩
  have HR := hideT' hR
  rw [← hR]
  clear hz hg hc hkd hnm hln hBW RT RZ ZT hR
  unfold lcC
  go_enter Try.func88, Try.ntmps88
  go_wp2_with fail
  rw [← hWd]
  go_loopg [9] (F + 1) (fun gg nv wr => ∃ (T : Lm) (j : Nat) (o : Option Addr) (l c : Nat), gg = F + 1 - j ∧ j ≤ F ∧ nv = .int .i64 (j : Int) ∧ Hid (l = T.kids.length ∧ LcIn wr (fun y => (P y ∧ y < w.heap.size) ∨ w.heap.size + 2 ≤ y) T (.slice o l c) ∧ T.good = true ∧ T.cl 0 = true ∧ RowAt wr w.heap.size 54 (lcC T.kd T.nm (.slice o l c)) ∧ RowAt wr (w.heap.size + 1) 54 #[.int .i64 0, .int .i64 0, .slice none 0 0] ∧ Below w.heap.size w wr) ∧ Hid (R = runT v (F - j) j T))
  case atStart => exact ⟨t, 0, oz, ln, cz, rfl, by omega, rfl, ⟨HLN.out, HS0.out⟩, HR.out⟩
  case round =>
    obtain ⟨T, j, o, l, c, hgg, hj, rfl, HS, HRR⟩ := hrel
    obtain ⟨hl, hZ, hgd, hcl, hT, hZr, hB⟩ := HS.out
    have hsz := (Lm.good_sz hgd).1
    have hGT := hT.lt
    have hGZ := hZr.lt
    have c0 : wr.cell? ⟨w.heap.size, 0, none⟩ = some (.int .i64 T.kd) := by rw [cell_of_row _ _ _ _ _ _ hT]; rfl
    have c1 : wr.cell? ⟨w.heap.size, 1, none⟩ = some (.int .i64 T.nm) := by rw [cell_of_row _ _ _ _ _ _ hT]; rfl
    have c2 : wr.cell? ⟨w.heap.size, 2, none⟩ = some (.slice o l c) := by rw [cell_of_row _ _ _ _ _ _ hT]; rfl
    have HC := hideT' (lfStep_all v T.sz T (Nat.le_refl _) _ _ wr hZ hcl (by omega))
    unfold lcC at HC
    clear hl hZ hgd hcl hT hZr hB
    go_wp2_with fail
    refine HC.out.mono ?_
    rintro e w5 ⟨hans, hB5⟩
    obtain ⟨hl, hZ, hgd, hcl, hT, hZr, hB⟩ := HS.out
    have hs5 := hB5.size
    have hT5 := hT.below hB5 hGT
    have hZ5 := hZr.below hB5 hGZ
    have hBB5 := hB.trans (hB5.mono hB.size)
    cases hst : T.stp v with
    | none =>
      rw [hst] at hans
      obtain ⟨k5, n5, o5, m5, c5, rfl⟩ := hans
      have HE : Hid (R = some (T, j)) := by unfold Hid; rw [HRR.out, runT_end hst]
      obtain ⟨w6, hw6⟩ : ∃ w6, w6 = w5.alloc (.cells #[.int .i64 k5, .int .i64 n5, .slice o5 m5 c5] 54) := ⟨_, rfl⟩
      have hB6 : Below w5.heap.size w5 w6 := by rw [hw6]; exact (Below.refl _ _).alloc (Nat.le_refl _) _
      have HRZ : Hid (RowAt (w5.alloc (.cells #[.int .i64 k5, .int .i64 n5, .slice o5 m5 c5] 54)) (w.heap.size + 1) 54 #[.int .i64 0, .int .i64 0, .slice none 0 0]) := by unfold Hid; rw [← hw6]; exact hZ5.below hB6 (by omega)
      have q0 : (w5.alloc (.cells #[.int .i64 k5, .int .i64 n5, .slice o5 m5 c5] 54)).cell? ⟨w.heap.size, 0, none⟩ = some (.int .i64 T.kd) := by rw [← hw6, cell_of_row _ _ _ _ _ _ (hT5.below hB6 (by omega))]; rfl
      have q1 : (w5.alloc (.cells #[.int .i64 k5, .int .i64 n5, .slice o5 m5 c5] 54)).cell? ⟨w.heap.size, 1, none⟩ = some (.int .i64 T.nm) := by rw [← hw6, cell_of_row _ _ _ _ _ _ (hT5.below hB6 (by omega))]; rfl
      have q2 : (w5.alloc (.cells #[.int .i64 k5, .int .i64 n5, .slice o5 m5 c5] 54)).cell? ⟨w.heap.size, 2, none⟩ = some (.slice o l c) := by rw [← hw6, cell_of_row _ _ _ _ _ _ (hT5.below hB6 (by omega))]; rfl
      have HB6 : Hid (Below w.heap.size w (w5.alloc (.cells #[.int .i64 k5, .int .i64 n5, .slice o5 m5 c5] 54))) := by unfold Hid; rw [← hw6]; exact hBB5.trans (hB6.mono hBB5.size)
      have HZZ : Hid (LcIn (w5.alloc (.cells #[.int .i64 k5, .int .i64 n5, .slice o5 m5 c5] 54)) (fun y => (P y ∧ y < w.heap.size) ∨ w.heap.size + 2 ≤ y) T (.slice o l c)) := by unfold Hid; rw [← hw6]; exact LcIn.below hB6 (LcIn.below hB5 hZ)
      unfold lcC
      clear hl hZ hgd hcl hT hZr hB hT5 hZ5 hBB5 hB5 hB6 hw6 c0 c1 c2
      go_wp2_with (refine store_3 rfl 54 _ _ rfl rfl zero_lcT.2 (w.heap.size + 1) (lcC T.kd T.nm (.slice o l c)) rfl (lcC_one _ _ _ rfl) rfl rfl #[.int .i64 0, .int .i64 0, .slice none 0 0] rfl HRZ.out ?_; intro w9 hR9 hg9 hs9)
      refine bodyPost_ret (v := .tuple #[.agg (lcC T.kd T.nm (.slice o l c)), .int .i64 (j : Int), .bool true]) (res_lc_tmp2 Try.results88 _ _ (w.heap.size + 1) T.kd T.nm (.slice o l c) _ (.bool true) rfl rfl rfl hR9) rfl ⟨?_, HB6.out.grown hg9 HB6.out.size (fun k e => by cases e; omega)⟩
      rw [HE.out]
      refine ⟨.slice o l c, rfl, ?_⟩
      exact LcIn.keep (w := w5.alloc (.cells #[.int .i64 k5, .int .i64 n5, .slice o5 m5 c5] 54)) (by omega) (fun y hy hl => hg9.block y hl (by intro e; injection e with e; rcases hy with hy | hy <;> omega)) (fun y hy _ => by rcases hy with hy | hy; exact .inl hy.1; exact .inr (by omega)) HZZ.out
    | some T' =>
      rw [hst] at hans
      obtain ⟨z5, rfl, hz5⟩ := hans
      obtain ⟨o5, c5, rfl⟩ := hz5.form
      obtain ⟨l5, hl5⟩ : ∃ l5, l5 = T'.kids.length := ⟨_, rfl⟩
      rw [← hl5] at hz5 ⊢
      have HL5 := hideT' hl5
      obtain ⟨w6, hw6⟩ : ∃ w6, w6 = w5.alloc (.cells #[.int .i64 T'.kd, .int .i64 T'.nm, .slice o5 l5 c5] 54) := ⟨_, rfl⟩
      have hB6 : Below w5.heap.size w5 w6 := by rw [hw6]; exact (Below.refl _ _).alloc (Nat.le_refl _) _
      have hBB6 : Below w.heap.size w w6 := hBB5.trans (hB6.mono hBB5.size)
      have hT6 := hT5.below hB6 (by omega)
      have hZ6 := hZ5.below hB6 (by omega)
      have hN6 : RowAt w6 w5.heap.size 54 #[.int .i64 T'.kd, .int .i64 T'.nm, .slice o5 l5 c5] := by rw [hw6]; exact RowAt.new _ _ _
      have hz6 : LcIn w6 (fun y => (P y ∧ y < w.heap.size) ∨ w.heap.size + 2 ≤ y) T' (.slice o5 l5 c5) := LcIn.below hB6 (LcIn.mono (fun y hy _ => by rcases hy with hy | hy; exact hy; exact .inr (by omega)) hz5)
      unfold lcC
      by_cases hjF : j = F
      · have HE : Hid (R = none) := by unfold Hid; rw [HRR.out, show F - j = 0 by omega, runT_zero hst]
        have q0 : (w5.alloc (.cells #[.int .i64 T'.kd, .int .i64 T'.nm, .slice o5 l5 c5] 54)).cell? ⟨w.heap.size, 0, none⟩ = some (.int .i64 T.kd) := by rw [← hw6, cell_of_row _ _ _ _ _ _ hT6]; rfl
        have q1 : (w5.alloc (.cells #[.int .i64 T'.kd, .int .i64 T'.nm, .slice o5 l5 c5] 54)).cell? ⟨w.heap.size, 1, none⟩ = some (.int .i64 T.nm) := by rw [← hw6, cell_of_row _ _ _ _ _ _ hT6]; rfl
        have q2 : (w5.alloc (.cells #[.int .i64 T'.kd, .int .i64 T'.nm, .slice o5 l5 c5] 54)).cell? ⟨w.heap.size, 2, none⟩ = some (.slice o l c) := by rw [← hw6, cell_of_row _ _ _ _ _ _ hT6]; rfl
        have HRZ : Hid (RowAt (w5.alloc (.cells #[.int .i64 T'.kd, .int .i64 T'.nm, .slice o5 l5 c5] 54)) (w.heap.size + 1) 54 #[.int .i64 0, .int .i64 0, .slice none 0 0]) := by unfold Hid; rw [← hw6]; exact hZ6
        have HB6 : Hid (Below w.heap.size w (w5.alloc (.cells #[.int .i64 T'.kd, .int .i64 T'.nm, .slice o5 l5 c5] 54))) := by unfold Hid; rw [← hw6]; exact hBB6
        subst hjF
        clear hl hZ hgd hcl hT hZr hB hT5 hZ5 hBB5 hB5 hB6 hw6 c0 c1 c2 hBB6 hT6 hZ6 hN6 hz6 hz5 hl5
        go_wp2_with (refine store_3 rfl 54 _ _ rfl rfl zero_lcT.2 (w.heap.size + 1) (lcC T.kd T.nm (.slice o l c)) rfl (lcC_one _ _ _ rfl) rfl rfl #[.int .i64 0, .int .i64 0, .slice none 0 0] rfl HRZ.out ?_; intro w9 hR9 hg9 hs9)
        refine bodyPost_ret (v := .tuple #[.agg (lcC T.kd T.nm (.slice o l c)), .int .i64 0, .bool false]) (res_lc_tmp2 Try.results88 _ _ (w.heap.size + 1) T.kd T.nm (.slice o l c) _ (.bool false) rfl rfl rfl hR9) rfl ⟨?_, HB6.out.grown hg9 HB6.out.size (fun k e => by cases e; omega)⟩
        rw [HE.out]
        exact ⟨_, _, _, _, _, _, rfl⟩
      · have hjn : ¬ (j : Int) = (F : Int) := by omega
        have hjb : ((j : Int) == (F : Int)) = false := by simpa using hjn
        have HC2 := hideT' (lcFine_any T' _ _ w6 hz6)
        obtain ⟨gd, hgd'⟩ : ∃ gd, gd = T'.good := ⟨_, rfl⟩
        rw [← hgd'] at HC2
        unfold lcC at HC2
        have HG := hideT' hgd'
        have HCL := hideT' (Lm.stp_cl hcl hst)
        have HST := hideT' hst
        have H6 := hideT' (And.intro hT6 (And.intro hZ6 (And.intro hN6 (And.intro hz6 hBB6))))
        have hs6 := hB6.size
        clear hl hZ hgd hcl hT hZr hB hT5 hZ5 hBB5 hB5 hB6 c0 c1 c2 hBB6 hT6 hZ6 hN6 hz6 hz5 hl5 hgd' hst
        go_wp2_with fail
        rw [← hw6]
        refine HC2.out.mono ?_
        rintro e w7 ⟨rfl, hB7⟩
        obtain ⟨hT6, hZ6, hN6, hz6, hBB6⟩ := H6.out
        have hs7 := hB7.size
        have hT7 := hT6.below hB7 hT6.lt
        have hZ7 := hZ6.below hB7 hZ6.lt
        have hN7 := hN6.below hB7 hN6.lt
        have HBB7 : Hid (Below w.heap.size w w7) := hBB6.trans (hB7.mono hBB6.size)
        have HZ7 : Hid (LcIn w7 (fun y => (P y ∧ y < w.heap.size) ∨ w.heap.size + 2 ≤ y) T' (.slice o5 l5 c5)) := LcIn.below hB7 hz6
        have HT7 := hideT' hT7
        have HRZ := hideT' hZ7
        have hw5l : w5.heap.size < w7.heap.size := hN7.lt
        cases gd with
        | false =>
          have HE : Hid (R = none) := by unfold Hid; rw [HRR.out]; exact runT_bad HST.out HG.out.symm
          have q0 : w7.cell? ⟨w.heap.size, 0, none⟩ = some (.int .i64 T.kd) := by rw [cell_of_row _ _ _ _ _ _ hT7]; rfl
          have q1 : w7.cell? ⟨w.heap.size, 1, none⟩ = some (.int .i64 T.nm) := by rw [cell_of_row _ _ _ _ _ _ hT7]; rfl
          have q2 : w7.cell? ⟨w.heap.size, 2, none⟩ = some (.slice o l c) := by rw [cell_of_row _ _ _ _ _ _ hT7]; rfl
          clear hT6 hZ6 hN6 hz6 hBB6 hT7 hZ7 hN7 hB7 hw6
          go_wp2_with (refine store_3 rfl 54 _ _ rfl rfl zero_lcT.2 (w.heap.size + 1) (lcC T.kd T.nm (.slice o l c)) rfl (lcC_one _ _ _ rfl) rfl rfl #[.int .i64 0, .int .i64 0, .slice none 0 0] rfl HRZ.out ?_; intro w9 hR9 hg9 hs9)
          refine bodyPost_ret (v := .tuple #[.agg (lcC T.kd T.nm (.slice o l c)), .int .i64 0, .bool false]) (res_lc_tmp2 Try.results88 _ _ (w.heap.size + 1) T.kd T.nm (.slice o l c) _ (.bool false) rfl rfl rfl hR9) rfl ⟨?_, HBB7.out.grown hg9 HBB7.out.size (fun k e => by cases e; omega)⟩
          rw [HE.out]
          exact ⟨_, _, _, _, _, _, rfl⟩
        | true =>
          have HE : Hid (R = runT v (F - (j + 1)) (j + 1) T') := by unfold Hid; rw [HRR.out, show F - j = (F - (j + 1)) + 1 by omega]; exact runT_step HST.out HG.out.symm
          have q0 : w7.cell? ⟨w5.heap.size, 0, none⟩ = some (.int .i64 T'.kd) := by rw [cell_of_row _ _ _ _ _ _ hN7]; rfl
          have q1 : w7.cell? ⟨w5.heap.size, 1, none⟩ = some (.int .i64 T'.nm) := by rw [cell_of_row _ _ _ _ _ _ hN7]; rfl
          have q2 : w7.cell? ⟨w5.heap.size, 2, none⟩ = some (.slice o5 l5 c5) := by rw [cell_of_row _ _ _ _ _ _ hN7]; rfl
          have hw1 : IntKind.i64.wrap ((j : Int) + 1) = (j : Int) + 1 := by rw [IntKind.wrap_i64]; omega
          clear hT6 hZ6 hN6 hz6 hBB6 hT7 hZ7 hN7 hB7 hw6
          go_wp2_with (refine store_3 rfl 54 _ _ rfl rfl zero_lcT.2 w.heap.size (lcC T'.kd T'.nm (.slice o5 l5 c5)) rfl (lcC_one _ _ _ rfl) rfl rfl (lcC T.kd T.nm (.slice o l c)) rfl HT7.out ?_; intro w9 hR9 hg9 hs9)
          have HS9 : Hid (l5 = T'.kids.length ∧ LcIn w9 (fun y => (P y ∧ y < w.heap.size) ∨ w.heap.size + 2 ≤ y) T' (.slice o5 l5 c5) ∧ T'.good = true ∧ T'.cl 0 = true ∧ RowAt w9 w.heap.size 54 (lcC T'.kd T'.nm (.slice o5 l5 c5)) ∧ RowAt w9 (w.heap.size + 1) 54 #[.int .i64 0, .int .i64 0, .slice none 0 0] ∧ Below w.heap.size w w9) :=
            ⟨HL5.out, LcIn.keep (w := w7) (by omega) (fun y hy hl => hg9.block y hl (by intro e; injection e with e; rcases hy with hy | hy <;> omega)) (fun y hy _ => hy) HZ7.out, HG.out.symm, HCL.out, hR9, HRZ.out.grown hg9 (by intro e; injection e with e; omega), HBB7.out.grown hg9 HBB7.out.size (fun k e => by cases e; exact Nat.le_refl _)⟩
          clear hR9 hg9
          go_roundg (F + 1 - (j + 1))
          case measure => omega
          case rel => exact ⟨T', j + 1, o5, l5, c5, rfl, by omega, by go_num, HS9, HE⟩
end Go.Proofs.Ytbnagagdboeedaa

/-
  What ValueTerm and HeadTerm of both sides answer.
-/
namespace Go.Proofs.Ytbnagagdboeedaa
open Go.RowKit BL
set_option linter.unusedVariables false

set_option maxHeartbeats 8000000 in
set_option maxRecDepth 100000 in
theorem lfTold_any (v : Bool) (l : List Nd) (fuel : Int) (vl : Value) (w : World) (hv : NdIn w vl l) (hl : l.length ≤ 1048576) :
    Calls Try.prog 74 #[vl, .int .i64 fuel, .bool v] w fun e w' => EvOut v w l fuel e w' ∧ Below w.heap.size w w' := by
  have hz0 := zero_lcT.1
  have HV := hideT' hv
  have HC := hideT' (lfClosed_any l vl w hv hl)
  clear hv
  cases hr : clR l with
  | none =>
    rw [clB_none hr] at HC
    have HN := hideT' (EvO_l (v := v) (k := fuel) hr)
    clear hr
    go_enter Try.func74, Try.ntmps74
    go_wp2_with fail
    refine HC.out.mono ?_
    rintro e w1 ⟨rfl, hB1⟩
    have HB1 := hideT' hB1
    clear hB1
    go_wp2
    go_ret3
    exact ⟨EvOut.bad HN.out, HB1.out⟩
  | some t =>
    rw [clB_some hr] at HC
    have HR := hideT' hr
    clear hr
    go_enter Try.func74, Try.ntmps74
    go_wp2_with fail
    refine HC.out.mono ?_
    rintro e w1 ⟨rfl, hB1⟩
    have HB1 := hideT' hB1
    clear hB1
    go_wp2_with fail
    refine (l1In_any fuel 0 1000 _).mono ?_
    rintro e w2 ⟨rfl, hw2⟩
    rw [hw2]
    clear hw2
    by_cases hk : 0 ≤ fuel ∧ fuel ≤ 1000
    · obtain ⟨F, rfl⟩ : ∃ F : Nat, fuel = (F : Int) := ⟨fuel.toNat, by omega⟩
      have hF : F ≤ 1000 := by omega
      have HN := hideT' (EvO_ok (v := v) HR.out hF)
      rw [decide_eq_true hk.1, decide_eq_true hk.2]
      clear hk
      have h1 := clR_some HR.out
      have HG := hideT' (readP'_facts h1.1).2.2.2.2
      have HCL := hideT' h1.2.2
      have HC2 := hideT' (lcTree_whole l t vl w1 (HV.out.below HB1.out) h1.1)
      clear h1
      go_wp2_with fail
      refine HC2.out.mono ?_
      rintro e w3 ⟨⟨z, rfl, hz⟩, hB3⟩
      have HB3 : Hid (Below w.heap.size w w3) := HB1.out.trans (hB3.mono HB1.out.size)
      have HC3 := hideT' (lfRun_any v t z _ F w3 hF hz HG.out HCL.out)
      obtain ⟨k1, hk1⟩ : ∃ k, k = lcC t.kd t.nm z := ⟨_, rfl⟩
      rw [← hk1] at HC3 ⊢
      have HGD : Hid (∀ s j, runT v F 0 t = some (s, j) → s.good = true) := fun s j h => (runT_good HG.out HCL.out h).1
      obtain ⟨R, hR⟩ : ∃ R, R = runT v F 0 t := ⟨_, rfl⟩
      rw [← hR] at HC3 HN HGD
      clear hz hB3 hk1 hR
      go_wp2_with fail
      refine HC3.out.mono ?_
      rintro e w4 ⟨hans, hB4⟩
      have HB4 : Hid (Below w.heap.size w w4) := HB3.out.trans (hB4.mono HB3.out.size)
      clear hB4
      cases R with
      | none =>
        obtain ⟨k5, n5, o5, m5, c5, i5, rfl⟩ := hans
        have HB5 : Hid (Below w.heap.size w (w4.alloc (.cells #[.int .i64 k5, .int .i64 n5, .slice o5 m5 c5] 54))) := HB4.out.alloc HB4.out.size _
        unfold lcC
        go_wp2
        go_ret3
        exact ⟨EvOut.bad HN.out, HB5.out⟩
      | some sj =>
        obtain ⟨s, j⟩ := sj
        obtain ⟨z5, rfl, hz5⟩ := hans
        obtain ⟨o5, c5, rfl⟩ := hz5.form
        have hsg := HGD.out s j rfl
        obtain ⟨w5, hw5⟩ : ∃ w5, w5 = w4.alloc (.cells #[.int .i64 s.kd, .int .i64 s.nm, .slice o5 s.kids.length c5] 54) := ⟨_, rfl⟩
        have hB5 : Below w4.heap.size w4 w5 := by rw [hw5]; exact (Below.refl _ _).alloc (Nat.le_refl _) _
        have HC4 := hideT' (lcTold_any s _ _ w5 (LcIn.below hB5 hz5))
        have HB5 : Hid (Below w.heap.size w w5) := HB4.out.trans (hB5.mono HB4.out.size)
        unfold lcC at HC4
        unfold lcC
        have HSG := hideT' hsg
        clear hz5 hB5 hsg
        go_wp2_with fail
        rw [← hw5]
        refine HC4.out.mono ?_
        rintro e w6 ⟨⟨u, rfl, hO⟩, hB6⟩
        rw [HSG.out]
        rw [HSG.out, if_pos rfl] at hO
        have HF : Hid (EvOut v w l (F : Int) (.returned (.tuple #[u, .int .i64 (j : Int), .bool true])) w6 ∧ Below w.heap.size w w6) := ⟨EvOut.good HN.out HSG.out hO HB5.out.size, HB5.out.trans (hB6.mono HB5.out.size)⟩
        clear hO hB6 hw5
        go_wp2
        go_ret3
        exact HF.out
    · have HN := hideT' (EvO_k (v := v) (l := l) hk)
      have hd : (decide (0 ≤ fuel) && decide (fuel ≤ 1000)) = false := by simpa using hk
      rw [hd]
      clear hk hd
      go_wp2
      go_ret3
      exact ⟨EvOut.bad HN.out, HB1.out⟩
def VaT (l : List Nd) (f : Int) : Option Lm := EvT true l f
def VaTN (l : List Nd) (f : Int) : Int := EvTN true l f
def HdT (l : List Nd) (f : Int) : Option Lm := EvT false l f
def HdTN (l : List Nd) (f : Int) : Int := EvTN false l f
def VaOut (w : World) (l : List Nd) (fuel : Int) (e : Ending) (w' : World) : Prop := ∃ u, e = .returned (.tuple #[u, .int .i64 (VaTN l fuel), .bool (toldB (VaT l fuel))]) ∧ OwnR w' w.heap.size u 57 termL 3 (toldL (VaT l fuel))
def HdOut (w : World) (l : List Nd) (fuel : Int) (e : Ending) (w' : World) : Prop := ∃ u, e = .returned (.tuple #[u, .int .i64 (HdTN l fuel), .bool (toldB (HdT l fuel))]) ∧ OwnR w' w.heap.size u 57 termL 3 (toldL (HdT l fuel))
theorem implValueTerm_any (l : List Nd) (fuel : Int) (v : Value) (w : World) (hv : NdIn w v l) (hl : l.length ≤ 1048576) :
    Calls Try.prog 37 #[v, .int .i64 fuel] w fun e w' => VaOut w l fuel e w' ∧ Below w.heap.size w w' := implValueTerm_ev l fuel v w hv hl
theorem implHeadTerm_any (l : List Nd) (fuel : Int) (v : Value) (w : World) (hv : NdIn w v l) (hl : l.length ≤ 1048576) :
    Calls Try.prog 39 #[v, .int .i64 fuel] w fun e w' => HdOut w l fuel e w' ∧ Below w.heap.size w w' := implHeadTerm_ev l fuel v w hv hl
set_option maxHeartbeats 2000000 in
theorem specValueTerm_any (l : List Nd) (fuel : Int) (v : Value) (w : World) (hv : NdIn w v l) (hl : l.length ≤ 1048576) :
    Calls Try.prog 36 #[v, .int .i64 fuel] w fun e w' => VaOut w l fuel e w' ∧ Below w.heap.size w w' := by
  have HC := hideT' (lfTold_any true l fuel v w hv hl)
  clear hv
  go_enter Try.func36, Try.ntmps36
  go_wp2_with fail
  refine HC.out.mono ?_
  rintro e w1 ⟨⟨u, rfl, hO⟩, hB⟩
  have HF : Hid (VaOut w l fuel (.returned (.tuple #[u, .int .i64 (EvTN true l fuel), .bool (toldB (EvT true l fuel))])) w1 ∧ Below w.heap.size w w1) := ⟨⟨u, rfl, hO⟩, hB⟩
  obtain ⟨m, hm⟩ : ∃ m, m = EvTN true l fuel := ⟨_, rfl⟩
  obtain ⟨q, hq⟩ : ∃ q, q = toldB (EvT true l fuel) := ⟨_, rfl⟩
  rw [← hm, ← hq] at HF ⊢
  clear hO hB hm hq
  go_wp2
  go_ret3
  exact HF.out
set_option maxHeartbeats 2000000 in
theorem specHeadTerm_any (l : List Nd) (fuel : Int) (v : Value) (w : World) (hv : NdIn w v l) (hl : l.length ≤ 1048576) :
    Calls Try.prog 38 #[v, .int .i64 fuel] w fun e w' => HdOut w l fuel e w' ∧ Below w.heap.size w w' := by
  have HC := hideT' (lfTold_any false l fuel v w hv hl)
  clear hv
  go_enter Try.func38, Try.ntmps38
  go_wp2_with fail
  refine HC.out.mono ?_
  rintro e w1 ⟨⟨u, rfl, hO⟩, hB⟩
  have HF : Hid (HdOut w l fuel (.returned (.tuple #[u, .int .i64 (EvTN false l fuel), .bool (toldB (EvT false l fuel))])) w1 ∧ Below w.heap.size w w1) := ⟨⟨u, rfl, hO⟩, hB⟩
  obtain ⟨m, hm⟩ : ∃ m, m = EvTN false l fuel := ⟨_, rfl⟩
  obtain ⟨q, hq⟩ : ∃ q, q = toldB (EvT false l fuel) := ⟨_, rfl⟩
  rw [← hm, ← hq] at HF ⊢
  clear hO hB hm hq
  go_wp2
  go_ret3
  exact HF.out
end Go.Proofs.Ytbnagagdboeedaa

/-
  What both PassTerm and PassValue answer.
-/
namespace Go.Proofs.Ytbnagagdboeedaa
open Go.RowKit BL
set_option linter.unusedVariables false

def PaT (l : List Nd) : Option Lm := match clR l with
  | none => none
  | some t => some t.pass
theorem PaT_none {l : List Nd} (h : clR l = none) : PaT l = none := by unfold PaT; rw [h]
theorem PaT_some {l : List Nd} {t : Lm} (h : clR l = some t) : PaT l = some t.pass := by unfold PaT; rw [h]
def PvT (l : List Nd) : Option Lm := match clR l with
  | some (.lam t) => some (.lam t.pass)
  | _ => none
theorem PvT_none {l : List Nd} (h : clR l = none) : PvT l = none := by unfold PvT; rw [h]
theorem PvT_other {l : List Nd} {t : Lm} (h : clR l = some t) (hk : ¬ t.kd = 2) : PvT l = none := by
  unfold PvT; rw [h]
  cases t with
  | var n => rfl
  | lam t => exact absurd rfl hk
  | app a b => rfl
theorem PvT_lam {l : List Nd} {t : Lm} (h : clR l = some (.lam t)) : PvT l = some (.lam t.pass) := by unfold PvT; rw [h]
theorem told_end {w w3 w4 : World} {t : Lm} {u : Value} {o : Option Lm} (h : OwnR w4 w3.heap.size u 57 termL 3 (if t.good then tri (t.flat 0 (-1)) else [])) (hs : w.heap.size ≤ w3.heap.size) (ho : o = some t) : TOut w o (.returned (.tuple #[u, .bool t.good])) w4 :=
  ToldT.out (t := t) ⟨u, rfl, h⟩ hs ho
set_option maxHeartbeats 4000000 in
set_option maxRecDepth 100000 in
theorem implPassTerm_any (l : List Nd) (v : Value) (w : World) (hv : NdIn w v l) (hl : l.length ≤ 1048576) :
    Calls Try.prog 41 #[v] w fun e w' => TOut w (PaT l) e w' ∧ Below w.heap.size w w' := by
  have HC := hideT' (closedTerm_any l v w hv hl)
  clear hv
  go_enter Try.func41, Try.ntmps41
  go_wp2_with fail
  refine HC.out.mono ?_
  rintro e w1 ⟨hans, hB1⟩
  have HB1 := hideT' hB1
  clear hB1
  rcases hans with ⟨p, rfl, hn⟩ | ⟨t, b, rfl, hr, hT⟩
  · have HN := hideT' (PaT_none hn)
    clear hn
    go_wp2
    go_ret2
    exact ⟨TOut.bad HN.out, HB1.out⟩
  · have HN := hideT' (PaT_some hr)
    have f1 := readP'_facts (clR_some hr).1
    have hp := t.pass_sz
    have HC2 := hideT' (passed_all t.sz t (Nat.le_refl _) b w1 (TrIn.mono (fun _ _ _ => trivial) hT) (by omega) f1.2.2.2.1)
    have HSZ : Hid (t.pass.sz ≤ 1000000) := by unfold Hid; omega
    obtain ⟨D, hD⟩ : ∃ D, D = t.pass := ⟨_, rfl⟩
    rw [← hD] at HC2 HSZ HN
    clear hr hT f1 hp hD
    go_wp2_with fail
    refine HC2.out.mono ?_
    rintro e w2 ⟨⟨b2, rfl, hT2⟩, hB2⟩
    have HB2 : Hid (Below w.heap.size w w2) := HB1.out.trans (hB2.mono HB1.out.size)
    have HC3 := hideT' (tellTree_any D b2 _ w2 hT2 HSZ.out)
    clear hT2 hB2
    go_wp2_with fail
    refine HC3.out.mono ?_
    rintro e w4 ⟨hT4, hB4⟩
    obtain ⟨u4, rfl, hO4⟩ := hT4
    have HF : Hid (TOut w (PaT l) (.returned (.tuple #[u4, .bool D.good])) w4 ∧ Below w.heap.size w w4) := ⟨told_end hO4 HB2.out.size HN.out, HB2.out.trans (hB4.mono HB2.out.size)⟩
    obtain ⟨q, hq⟩ : ∃ q, q = D.good := ⟨_, rfl⟩
    rw [← hq] at HF ⊢
    clear hq hO4 hB4
    go_wp2
    go_ret2
    exact HF.out
set_option maxHeartbeats 4000000 in
set_option maxRecDepth 100000 in
theorem specPassTerm_any (l : List Nd) (v : Value) (w : World) (hv : NdIn w v l) (hl : l.length ≤ 1048576) :
    Calls Try.prog 40 #[v] w fun e w' => TOut w (PaT l) e w' ∧ Below w.heap.size w w' := by
  have HV := hideT' hv
  have HC := hideT' (lfClosed_any l v w hv hl)
  clear hv
  cases hr : clR l with
  | none =>
    rw [clB_none hr] at HC
    have HN := hideT' (PaT_none hr)
    clear hr
    go_enter Try.func40, Try.ntmps40
    go_wp2_with fail
    refine HC.out.mono ?_
    rintro e w1 ⟨rfl, hB1⟩
    have HB1 := hideT' hB1
    clear hB1
    go_wp2
    go_ret2
    exact ⟨TOut.bad HN.out, HB1.out⟩
  | some t =>
    rw [clB_some hr] at HC
    have HN := hideT' (PaT_some hr)
    have HR := hideT' hr
    have f1 := readP'_facts (clR_some hr).1
    have HS : Hid (t.sz ≤ 1000) := by unfold Hid; omega
    have HOK := hideT' f1.2.2.2.1
    clear hr f1
    go_enter Try.func40, Try.ntmps40
    go_wp2_with fail
    refine HC.out.mono ?_
    rintro e w1 ⟨rfl, hB1⟩
    have HC2 := hideT' (lcTree_whole l t v w1 (HV.out.below hB1) (clR_some HR.out).1)
    have HB1 := hideT' hB1
    clear hB1
    go_wp2_with fail
    refine HC2.out.mono ?_
    rintro e w2 ⟨⟨z, rfl, hz⟩, hB2⟩
    have HC3 := hideT' (lfPass_all t.sz t (Nat.le_refl _) z _ w2 hz HS.out HOK.out)
    have HB2 : Hid (Below w.heap.size w w2) := HB1.out.trans (hB2.mono HB1.out.size)
    obtain ⟨k1, hk1⟩ : ∃ k, k = lcC t.kd t.nm z := ⟨_, rfl⟩
    rw [← hk1] at HC3 ⊢
    obtain ⟨D, hD⟩ : ∃ D, D = t.pass := ⟨_, rfl⟩
    rw [← hD] at HC3 HN
    have HD : Hid (D.kd = 2 ∧ D.nm = 0) := by unfold Hid; rw [hD]; cases t <;> exact ⟨rfl, rfl⟩
    clear hz hB2 hk1 hD
    go_wp2_with fail
    refine HC3.out.mono ?_
    rintro e w3 ⟨⟨z3, rfl, hz3⟩, hB3⟩
    have HB3 : Hid (Below w.heap.size w w3) := HB2.out.trans (hB3.mono HB2.out.size)
    have HC4 := hideT' (lcTold_any D z3 _ w3 hz3)
    rw [HD.out.1, HD.out.2] at HC4
    clear hz3 hB3
    go_wp2_with fail
    refine HC4.out.mono ?_
    rintro e w4 ⟨hT4, hB4⟩
    obtain ⟨u4, rfl, hO4⟩ := hT4
    have HF : Hid (TOut w (PaT l) (.returned (.tuple #[u4, .bool D.good])) w4 ∧ Below w.heap.size w w4) := ⟨told_end hO4 HB3.out.size HN.out, HB3.out.trans (hB4.mono HB3.out.size)⟩
    obtain ⟨q, hq⟩ : ∃ q, q = D.good := ⟨_, rfl⟩
    rw [← hq] at HF ⊢
    clear hq hO4 hB4
    go_wp2
    go_ret2
    exact HF.out
set_option maxHeartbeats 4000000 in
set_option maxRecDepth 100000 in
theorem implPassValue_any (l : List Nd) (v : Value) (w : World) (hv : NdIn w v l) (hl : l.length ≤ 1048576) :
    Calls Try.prog 43 #[v] w fun e w' => TOut w (PvT l) e w' ∧ Below w.heap.size w w' := by
  have HC := hideT' (closedTerm_any l v w hv hl)
  clear hv
  go_enter Try.func43, Try.ntmps43
  go_wp2_with fail
  refine HC.out.mono ?_
  rintro e w1 ⟨hans, hB1⟩
  have HB1 := hideT' hB1
  clear hB1
  rcases hans with ⟨p, rfl, hn⟩ | ⟨t, b, rfl, hr, hT⟩
  · have HN := hideT' (PvT_none hn)
    clear hn
    go_wp2
    go_ret2
    exact ⟨TOut.bad HN.out, HB1.out⟩
  · have hk := hT.kind
    have hbl := hT.lt
    by_cases h2 : t.kd = 2
    · cases t with
      | var n => simp [Lm.kd] at h2
      | app a c => simp [Lm.kd] at h2
      | lam u =>
        have HN := hideT' (PvT_lam hr)
        have f1 := readP'_facts (clR_some hr).1
        have hp := u.pass_sz
        have h1 := f1.2.1
        simp only [Lm.sz] at h1
        simp only [Lm.kd] at hk
        have HC2 := hideT' (passedValue_of u.sz (passed_all u.sz) u (Nat.le_refl _) b w1 (TrIn.mono (fun _ _ _ => trivial) hT) (by omega) f1.2.2.2.1)
        have HSZ : Hid ((Lm.lam u.pass).sz ≤ 1000000) := by unfold Hid; simp only [Lm.sz]; omega
        obtain ⟨D, hD⟩ : ∃ D, D = Lm.lam u.pass := ⟨_, rfl⟩
        rw [← hD] at HC2 HSZ HN
        clear hr hT f1 hp hD h1 h2
        go_wp2_with fail
        refine HC2.out.mono ?_
        rintro e w2 ⟨⟨b2, rfl, hT2⟩, hB2⟩
        have HB2 : Hid (Below w.heap.size w w2) := HB1.out.trans (hB2.mono HB1.out.size)
        have HC3 := hideT' (tellTree_any D b2 _ w2 hT2 HSZ.out)
        clear hT2 hB2
        go_wp2_with fail
        refine HC3.out.mono ?_
        rintro e w4 ⟨hT4, hB4⟩
        obtain ⟨u4, rfl, hO4⟩ := hT4
        have HF : Hid (TOut w (PvT l) (.returned (.tuple #[u4, .bool D.good])) w4 ∧ Below w.heap.size w w4) := ⟨told_end hO4 HB2.out.size HN.out, HB2.out.trans (hB4.mono HB2.out.size)⟩
        obtain ⟨q, hq⟩ : ∃ q, q = D.good := ⟨_, rfl⟩
        rw [← hq] at HF ⊢
        clear hq hO4 hB4
        go_wp2
        go_ret2
        exact HF.out
    · have HN := hideT' (PvT_other hr h2)
      obtain ⟨kd, hkd⟩ : ∃ kd, kd = t.kd := ⟨_, rfl⟩
      rw [← hkd] at hk h2
      have hkb : (kd == 2) = false := by simpa using h2
      clear hr hT hkd
      go_wp2
      go_ret2
      exact ⟨TOut.bad HN.out, HB1.out⟩
theorem field_kids (k m : Int) (v : Value) (w : World) : (Instr.field 54 (.agg #[.int .i64 k, .int .i64 m, v]) 2).run Try.prog w = .ok v w := by kernel_rfl
set_option maxHeartbeats 4000000 in
set_option maxRecDepth 100000 in
theorem specPassValue_any (l : List Nd) (v : Value) (w : World) (hv : NdIn w v l) (hl : l.length ≤ 1048576) :
    Calls Try.prog 42 #[v] w fun e w' => TOut w (PvT l) e w' ∧ Below w.heap.size w w' := by
  have HV := hideT' hv
  have HC := hideT' (specIsValue_any l v w hv hl)
  clear hv
  by_cases hq : ∃ u, clR l = some (.lam u)
  · obtain ⟨u, hr⟩ := hq
    have hq : IsV l = true := by unfold IsV; rw [hr]; rfl
    rw [hq] at HC
    have HN := hideT' (PvT_lam hr)
    have HR := hideT' hr
    have f1 := readP'_facts (clR_some hr).1
    have h1 := f1.2.1
    simp only [Lm.sz] at h1
    have HS : Hid (u.sz ≤ 1000) := by unfold Hid; omega
    have HOK : Hid (u.ok = true) := f1.2.2.2.1
    clear hr f1 hq h1
    go_enter Try.func42, Try.ntmps42
    go_wp2_with fail
    refine HC.out.mono ?_
    rintro e w1 ⟨rfl, hB1⟩
    have HC2 := hideT' (lcTree_whole l (.lam u) v w1 (HV.out.below hB1) (clR_some HR.out).1)
    have HB1 := hideT' hB1
    clear hB1
    go_wp2_with fail
    refine HC2.out.mono ?_
    rintro e w2 ⟨⟨z, rfl, hz⟩, hB2⟩
    have HB2 : Hid (Below w.heap.size w w2) := HB1.out.trans (hB2.mono HB1.out.size)
    obtain ⟨g, cz, zu, rfl, ⟨hgl, hgP⟩, ⟨a0, a1, a2⟩, hzu⟩ := hz
    obtain ⟨ou, cu, rfl⟩ := hzu.form
    have HC3 := hideT' (lfPass_all u.sz u (Nat.le_refl _) _ _ w2 hzu HS.out HOK.out)
    unfold lcC at HC3
    unfold lcC
    simp only [Lm.kd, Lm.nm]
    obtain ⟨D, hD⟩ : ∃ D, D = u.pass := ⟨_, rfl⟩
    rw [← hD] at HC3 HN
    have HD : Hid (D.kd = 2 ∧ D.nm = 0) := by unfold Hid; rw [hD]; cases u <;> exact ⟨rfl, rfl⟩
    obtain ⟨ku, hku⟩ : ∃ k, k = u.kd := ⟨_, rfl⟩
    obtain ⟨nu, hnu⟩ : ∃ k, k = u.nm := ⟨_, rfl⟩
    obtain ⟨lu, hlu⟩ : ∃ k, k = u.kids.length := ⟨_, rfl⟩
    rw [← hku, ← hnu, ← hlu] at HC3
    rw [← hku] at a0
    rw [← hnu] at a1
    rw [← hlu] at a2
    have hfd := field_kids
    clear hzu hB2 hD hgP hku hnu hlu
    go_wp2_with fail
    refine HC3.out.mono ?_
    rintro e w3 ⟨⟨z3, rfl, hz3⟩, hB3⟩
    have HB3 : Hid (Below w.heap.size w w3) := HB2.out.trans (hB3.mono HB2.out.size)
    have HC4 := hideT' (lcLam_any D z3 _ w3 hz3)
    rw [HD.out.1, HD.out.2] at HC4
    clear hz3 hB3 a0 a1 a2 hgl hfd
    go_wp2_with fail
    refine HC4.out.mono ?_
    rintro e w4 ⟨⟨z4, rfl, hz4⟩, hB4⟩
    have HB4 : Hid (Below w.heap.size w w4) := HB3.out.trans (hB4.mono HB3.out.size)
    have HC5 := hideT' (lcTold_any (.lam D) z4 _ w4 hz4)
    clear hz4 hB4
    go_wp2_with fail
    refine HC5.out.mono ?_
    rintro e w5 ⟨hT5, hB5⟩
    obtain ⟨u5, rfl, hO5⟩ := hT5
    have HF : Hid (TOut w (PvT l) (.returned (.tuple #[u5, .bool (Lm.lam D).good])) w5 ∧ Below w.heap.size w w5) := ⟨told_end hO5 HB4.out.size HN.out, HB4.out.trans (hB5.mono HB4.out.size)⟩
    obtain ⟨q, hq⟩ : ∃ q, q = (Lm.lam D).good := ⟨_, rfl⟩
    rw [← hq] at HF ⊢
    clear hq hO5 hB5
    go_wp2
    go_ret2
    exact HF.out
  · have hI : IsV l = false := by
      unfold IsV
      cases h : clR l with
      | none => rfl
      | some t => cases t with
        | lam u => exact absurd ⟨u, h⟩ hq
        | var n => rfl
        | app a b => rfl
    have HN : Hid (PvT l = none) := by
      unfold Hid
      cases h : clR l with
      | none => exact PvT_none h
      | some t => exact PvT_other h (fun e => by cases t with
        | lam u => exact hq ⟨u, h⟩
        | var n => simp [Lm.kd] at e
        | app a b => simp [Lm.kd] at e)
    rw [hI] at HC
    clear hI hq
    go_enter Try.func42, Try.ntmps42
    go_wp2_with fail
    refine HC.out.mono ?_
    rintro e w1 ⟨rfl, hB1⟩
    have HB1 := hideT' hB1
    clear hB1
    go_wp2
    go_ret2
    exact ⟨TOut.bad HN.out, HB1.out⟩
end Go.Proofs.Ytbnagagdboeedaa
