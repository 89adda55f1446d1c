/-
  What freeIn of the program answers, and FreeIn.
-/
import Derived.Test.YtbnagagdboeedaaImplTell
import Derived.Test.YtbnagagdboeedaaSortRow
import Derived.Test.YtbnagagdboeedaaSpecFree
import Derived.Maps.OwnIn
import Derived.BigQuiet
namespace Go.Proofs.Ytbnagagdboeedaa
open Go.RowKit Go.Shelf BL
set_option linter.unusedVariables false
attribute [local go_sem] Oper.semAt_some

theorem one_slints : (Try.prog.info? 24).map (·.size) = some 1 := by kernel_rfl
/-- A drawn region within a round whose operations only read: one walk in the text's order. -/
theorem quiet_round {id l n : Nat} {Q : Exit → Act → World → Prop} {a : Act} {w : World} {ops : List Oper} (hm : Try.prog.follows .mixedOrders = true) (hd : noDefer ops.toArray = true) (hB : Region.lexB .any ops.toArray = true)
    (h : wpQuiet Try.prog ops.toArray (fun w' => ∃ n, w' = w.drewN n) (fun a' => ∀ w', (∃ n, w' = w.drewN n) → Q .normal a' w') ops a) : (Code.region id ops.toArray true).wpIn (Fence.wide.inRound l) n Try.prog Q a w := by
  simp only [Region.lexB, Bool.and_eq_true] at hB
  refine wpIn_mono (region_round hm hd (fun ⟨_, _, h⟩ => h) (wpAny_of_quiet (C := fun w' => ∃ n, w' = w.drewN n) (Q := fun a' => ∀ w', (∃ n, w' = w.drewN n) → Q .normal a' w') (Q' := Calm Q) (fun _ w' hw' h => Calm.normal (h w' hw')) _ _ _ _ ⟨1, rfl⟩ ?_)) Calm.imp
  have := wpAnyQ_lex (P := Try.prog) (C := fun w' => ∃ n, w' = w.drewN n) (md := .any) hB.1 ops 0 (Array.replicate ops.toArray.size false) a (by simp) (by simpa using hB.2) h
  simpa using this
/-- The free variables among places that a walk came by. -/
def freesOf (pre : List (Spot × Nat)) : List Int := pre.flatMap fun x => x.1.free
theorem freesOf_app (pre : List (Spot × Nat)) (x : Spot × Nat) : freesOf (pre ++ [x]) = freesOf pre ++ x.1.free := by
  unfold freesOf
  rw [List.flatMap_append, List.flatMap_singleton]
theorem freesOf_all {pre : List (Spot × Nat)} {t : Lm} (h : pre.map Prod.fst = t.walk 0 (-1) 0) : freesOf pre = t.free 0 := by
  have := Lm.walk_free t 0 (-1) 0
  rw [← h, List.flatMap_map] at this
  exact this
theorem spot_free_len (x : Spot) : x.free.length ≤ 1 := by
  unfold Spot.free
  split
  · split <;> simp
  · simp
theorem freesOf_len : ∀ (pre : List (Spot × Nat)), (freesOf pre).length ≤ pre.length
  | [] => by simp [freesOf]
  | x :: pre => by
    have := freesOf_len pre
    have h2 := spot_free_len x.1
    have e : freesOf (x :: pre) = x.1.free ++ freesOf pre := rfl
    rw [e, List.length_append, List.length_cons]; omega
/-- What the loop over the walk knows: the slice in its own variable. -/
def FreI (w : World) (pre : List (Spot × Nat)) (V : Nat → Prop) (W : World) : Prop :=
  ∃ v, (∀ z, V z ↔ (z = w.heap.size ∨ v.ownBlock = some z)) ∧ RowAt W w.heap.size 24 #[v] ∧ OwnR W (w.heap.size + 1) v 3 intL 1 (freesOf pre) ∧ Below w.heap.size w W
theorem FreI.lt {w : World} {pre : List (Spot × Nat)} {V : Nat → Prop} {W : World} (h : FreI w pre V W) : ∀ z, V z → z < W.heap.size := by
  obtain ⟨v, hV, hR, hO, hB⟩ := h
  intro z hz
  rcases (hV z).1 hz with rfl | hz
  · exact hR.lt
  · exact (hO.lt z hz).2
theorem FreI.step {w : World} {pre : List (Spot × Nat)} {V : Nat → Prop} {A B : World} {row : Option Nat} (h : FreI w pre V A) (hg : A.grownBy B row) (hr : ∀ r, row = some r → ¬ V r ∧ w.heap.size ≤ r) : FreI w pre V B := by
  obtain ⟨v, hV, hR, hO, hB⟩ := h
  refine ⟨v, hV, hR.grown hg (fun e => (hr _ e.symm).1 ((hV _).2 (.inl rfl))), own_keep hO (fun g hgo => hg.block g (hO.lt g hgo).2 (fun e => (hr _ e.symm).1 ((hV _).2 (.inr hgo)))), hB.grown hg hB.size (fun k e => (hr k e).2)⟩
/-- How a round of freeIn begins. -/
def freAct (w : World) (b sb : Nat) (x : Spot × Nat) : Act := { tmps := #[.pointer (some ⟨b, 0, none⟩), undef, .slice none 0 0, .pointer (some ⟨w.heap.size, 0, none⟩), .pointer (some ⟨sb, 0, none⟩), .pointer (some ⟨x.2, 0, none⟩), .pointer (some ⟨b, 0, none⟩), .func (.func 125) #[] #[.pointer (some ⟨w.heap.size + 1, 0, none⟩)], .agg #[.int .i64 (x.1.at_ : Int), .int .i64 x.1.up, .int .i64 (x.1.lam : Int)], .pointer (some ⟨x.2, 0, none⟩), undef, undef, undef, undef, undef, undef, undef, undef, undef, undef, undef, undef, undef, undef, undef, undef, undef, undef, undef, undef, undef, undef, undef, undef, undef, undef, undef, undef, undef, undef, undef], defers := [] }
set_option maxRecDepth 100000 in
set_option maxHeartbeats 8000000 in
theorem freeIn_any (t : Lm) (b : Nat) (P : Nat → Prop) (w : World) (hT : TrIn w P t b) (hs : t.sz ≤ 1000000) (hok : t.ok = true) :
    Calls Try.prog 55 #[.pointer (some ⟨b, 0, none⟩)] w fun e w' => (∃ u, e = .returned u ∧ OwnR w' w.heap.size u 3 intL 1 (FrL t)) ∧ Below w.heap.size w w' := by
  refine (callsIn_wide (n := 4)).1 ?_
  have HT := hideT' hT
  have HOK := hideT' hok
  clear hT hok
  refine callsIn_of_wp_marks Try.func55 rfl trivial ?_ rfl
  simp only [Try.ntmps55, List.size_toArray, List.length_cons, List.length_nil, Nat.reduceAdd, Nat.reduceSub, Array.replicate_succ, Array.replicate_zero, List.push_toArray, List.append_toArray, List.nil_append, List.cons_append]
  gi_wp2
  refine ⟨trivial, ?_⟩
  gi_at_call 93
  refine (callsIn_wide.2 (walk_any b _)).mono ?_
  rintro e w3 ⟨rfl, hw3⟩
  have hs3 : w3.heap.size = w.heap.size + 2 := by rw [hw3]; simp
  have hB3 : Below w.heap.size w w3 := by rw [hw3]; exact ((Below.refl _ _).alloc (Nat.le_refl _) _).alloc (by simp) _
  have hI0 : FreI w [] (fun z => z = w.heap.size) w3 := by
    refine ⟨.slice none 0 0, fun z => ?_, ?_, World.ownsRow_nil _ _ _ _, hB3⟩
    · simp [Value.ownBlock]
    · rw [hw3]; exact RowAt.old (RowAt.new _ _ _) _
  have hcx : w3.cell? ⟨w.heap.size + 1, 0, none⟩ = some (.pointer (some ⟨b, 0, none⟩)) := by
    have hr : RowAt w3 (w.heap.size + 1) 60 #[.pointer (some ⟨b, 0, none⟩)] := by
      rw [hw3]
      have := RowAt.new (w.alloc (.cells #[.slice none 0 0] 24)) 60 #[.pointer (some ⟨b, 0, none⟩)]
      rwa [World.size_alloc] at this
    rw [cell_of_row _ _ _ _ _ _ hr]; rfl
  have HI0 := hideT' hI0
  have HB3 := hideT' hB3
  have HCX := hideT' hcx
  clear hw3 hI0 hB3 hcx
  simp only [World.size_alloc]
  gi_wp2
  refine range_own (gf := 125) (lb := #[.pointer (some ⟨w.heap.size + 1, 0, none⟩)]) (by rfl) (enters_of Try.func125 (by kernel_rfl) rfl) encS (fun x => rfl) _ _ _ (walk_seq (w.heap.size + 1) t b hs)
    (fun pre x V V' W hVV h => ⟨h.1, TrIn.mono (fun z hz _ hv => hz (hVV z hv)) h.2⟩)
    (FreI w) (fun s V A h => h.lt) (fun s V A B row h hg hr => h.step hg (fun r e => ⟨(hr r e).1, by have := (hr r e).2; omega⟩)) (fun z => z = w.heap.size) HI0.out ?need
    (fun pre x V c W => ∃ sb, c = freAct w b sb x ∧ pre.length < t.sz ∧ (x.1 ∈ t.walk 0 (-1) 0) ∧ FreI w pre V W ∧ RowAt W sb 114 #[.int .i64 (x.1.at_ : Int), .int .i64 x.1.up, .int .i64 (x.1.lam : Int)] ∧ ¬ V sb ∧ TrIn W (fun z => ¬ V z) x.1.t x.2) ?ax ?assign ?body ?done
  case need =>
    intro B V hg hV
    refine ⟨TrIn.keep (w := w) (P := P) (by have := hg.size; omega) (fun x _ hx => ?_) (fun x _ hx hv => ?_) HT.out, ?_⟩
    · rw [hg.block x (by omega) (by simp)]; exact HB3.out.block x hx
    · rcases hV x hv with h | h <;> omega
    · rw [World.cell?_of_block (w := w3) (a := ⟨w.heap.size + 1, 0, none⟩) (hg.block _ (by simp; omega) (by simp))]; exact HCX.out
  case ax =>
    rintro s x V c A B row ⟨sb, h1, hl, ha, h2, h3, h4, h5⟩ hg hr
    exact ⟨sb, h1, hl, ha, h2.step hg (fun r e => ⟨(hr r e).1.1, by have := (hr r e).1.2; omega⟩), TrIn.turn.row_same h3 hg (fun r e => (hr r e).2), h4, TrIn.turn hg (fun r e => (hr r e).2) h5⟩
  case assign =>
    intro l pre x V W K hNx hI hK
    have HI := hideT' hI
    have HK := hideT' hK
    have HNX := hideT' hNx
    unfold encS
    clear hI hK hNx
    gi_wp2
    have hal : Below W.heap.size W (W.alloc (.cells #[.int .i64 (x.1.at_ : Int), .int .i64 x.1.up, .int .i64 (x.1.lam : Int)] 114)) := (Below.refl _ _).alloc (Nat.le_refl _) _
    obtain ⟨⟨post, hpo⟩, hTx⟩ := HNX.out
    have hlen := congrArg List.length hpo
    rw [Lm.walk_len, List.length_append, List.length_map, List.length_cons] at hlen
    refine HK.out _ _ V ⟨W.heap.size, rfl, by omega, ?_, HI.out.step (row := none) ⟨hal.os, hal.tape, hal.output, hal.size, fun k hk _ => hal.block k hk⟩ (fun r e => by cases e), RowAt.new _ _ _, fun h => by have := HI.out.lt _ h; omega, TrIn.below hal hTx⟩ (MoreB.refl _ _) (KeepsB.below hal)
    rw [hpo]; simp
  case body =>
    rintro l pre x V c W ⟨sb, rfl, hpl, hmem, hI, hR, hVs, hTx⟩
    unfold freAct
    obtain ⟨v, hV, hRv, hO, hB⟩ := hI
    obtain ⟨ov, cap, hvv⟩ := own_formT hO
    subst hvv
    have hls := freesOf_len pre
    have hra := freesOf_app pre x
    obtain ⟨u2, d0, d1, d2⟩ := hTx.own3
    have hws := Lm.walk_sub t 0 (-1) 0 x.1 hmem
    have hdl := t.dp_sz
    obtain ⟨kd, hkd⟩ : ∃ kd, kd = x.1.t.kd := ⟨_, rfl⟩
    obtain ⟨nm, hnm⟩ : ∃ nm, nm = x.1.t.nm := ⟨_, rfl⟩
    obtain ⟨lm, hlm⟩ : ∃ lm, lm = x.1.lam := ⟨_, rfl⟩
    rw [← hkd] at d0
    rw [← hnm] at d1
    rw [← hlm] at hR hws
    have hcl : W.cell? ⟨sb, 2, none⟩ = some (.int .i64 (lm : Int)) := by rw [cell_of_row _ _ _ _ _ _ hR]; rfl
    have hcv : W.cell? ⟨w.heap.size, 0, none⟩ = some (.slice ov (freesOf pre).length cap) := by rw [cell_of_row _ _ _ _ _ _ hRv]; rfl
    have hfr : x.1.free = if kd = 1 ∧ (lm : Int) ≤ nm then [nm - (lm : Int)] else [] := by
      rw [hkd, hnm, hlm]
      unfold Spot.free
      cases x.1.t <;> simp [Lm.kd, Lm.nm]
    have hn9 : kd = 1 → -1000000 ≤ nm ∧ nm ≤ 1000000 := by
      intro hk1
      have h1 := HOK.out
      rw [Lm.walk_ok t 0 (-1) 0, List.all_eq_true] at h1
      have h2 := h1 x.1 hmem
      rw [hkd] at hk1
      rw [hnm]
      revert h2 hk1
      cases x.1.t <;> simp [Lm.kd, Lm.nm] <;> omega
    have hlm9 : (lm : Int) ≤ 1000000 := by omega
    have hlm0 : (0 : Int) ≤ (lm : Int) := by omega
    rw [← hlm]
    have hxl := hTx.lt
    have hwz := hRv.lt
    have hsb := hR.lt
    have HXO : Hid ((Value.slice ov (freesOf pre).length cap).ownBlock ≠ some x.2) := fun e => hTx.inP ((hV _).2 (.inr e))
    have HBO : Hid ((Value.slice ov (freesOf pre).length cap).ownBlock ≠ some w.heap.size) := fun e => by have := (hO.lt _ e).1; omega
    have HSO : Hid ((Value.slice ov (freesOf pre).length cap).ownBlock ≠ some sb) := fun e => hVs ((hV _).2 (.inr e))
    have HXB : Hid (x.2 ≠ w.heap.size) := fun e => hTx.inP ((hV _).2 (.inl e))
    have HSB : Hid (sb ≠ w.heap.size) := fun e => hVs ((hV _).2 (.inl e))
    have HV := hideT' hV
    have HRV := hideT' hRv
    have HRS := hideT' hR
    have HO := hideT' hO
    have HB := hideT' hB
    have HD := hideT' (And.intro d0 d1)
    have HHN := hideT' hn9
    clear hV hRv hO hB hR hTx hkd hnm hlm hws hdl hmem d2 hn9 hVs
    by_cases hv : kd = 1 ∧ (lm : Int) ≤ nm
    · have HRA : Hid (freesOf (pre ++ [x]) = freesOf pre ++ [nm - (lm : Int)]) := by unfold Hid; rw [hra, hfr, if_pos hv]
      obtain ⟨hk1, hle⟩ := hv
      subst hk1
      have hw1 : IntKind.i64.wrap (nm - (lm : Int)) = nm - (lm : Int) := by have := HHN.out rfl; rw [IntKind.wrap_i64]; omega
      clear hra hfr
      obtain ⟨i0, hi, hz0, hz1, hz2⟩ := info_parts info_int
      gi_wp2
      refine quiet_round (by kernel_rfl) (by kernel_rfl) (by kernel_rfl) ?_
      repeat (go_big_quiet_step (fail))
      refine wpQuiet_nil ?_
      rintro _ ⟨nq, rfl⟩
      gi_wp2
      have hS : RowAt (W.drewN nq).drew w.heap.size 24 #[.slice ov (freesOf pre).length cap] ∧ (W.drewN nq).drew.cell? ⟨x.2, 1, none⟩ = some (.int .i64 nm) ∧ (W.drewN nq).drew.cell? ⟨sb, 2, none⟩ = some (.int .i64 (lm : Int)) := ⟨HRV.out, HD.out.2, hcl⟩
      refine lateR [11] (fun w' => RowAt w' w.heap.size 24 #[.slice ov (freesOf pre).length cap] ∧ w'.cell? ⟨x.2, 1, none⟩ = some (.int .i64 nm) ∧ w'.cell? ⟨sb, 2, none⟩ = some (.int .i64 (lm : Int))) (by kernel_rfl) (by kernel_rfl) ?_
      refine late_val 0 (some 26) rfl rfl (by kernel_rfl) (by kernel_rfl) (by kernel_rfl) [10, 11] (by kernel_rfl) calm_put rfl (.slice ov (freesOf pre).length cap) (fun w' h => by have c : w'.cell? ⟨w.heap.size, 0, none⟩ = some (.slice ov (freesOf pre).length cap) := (by rw [cell_of_row w' _ _ _ _ _ h.1]; rfl); go_simp) hS ?_
      simp only [Act.put, List.setIfInBounds_toArray, List.set_cons_zero, List.set_cons_succ]
      refine late_val 1 (some 27) rfl rfl (by kernel_rfl) (by kernel_rfl) (by kernel_rfl) [2, 3, 4, 5, 8, 9, 10, 11] (by kernel_rfl) calm_put rfl (.pointer (some ⟨x.2, 0, none⟩)) (fun _ _ => by go_simp) hS ?_
      simp only [Act.put, List.setIfInBounds_toArray, List.set_cons_zero, List.set_cons_succ]
      refine late_val 2 (some 28) rfl rfl (by kernel_rfl) (by kernel_rfl) (by kernel_rfl) [3, 4, 5, 8, 9, 10, 11] (by kernel_rfl) calm_put rfl (.pointer (some ⟨x.2, 0, none⟩)) (fun _ _ => by go_simp) hS ?_
      simp only [Act.put, List.setIfInBounds_toArray, List.set_cons_zero, List.set_cons_succ]
      refine late_val 3 (some 29) rfl rfl (by kernel_rfl) (by kernel_rfl) (by kernel_rfl) [4, 5, 8, 9, 10, 11] (by kernel_rfl) calm_put rfl (.pointer (some ⟨x.2, 0, none⟩)) (fun _ _ => by go_simp) hS ?_
      simp only [Act.put, List.setIfInBounds_toArray, List.set_cons_zero, List.set_cons_succ]
      refine late_val 4 (some 30) rfl rfl (by kernel_rfl) (by kernel_rfl) (by kernel_rfl) [5, 8, 9, 10, 11] (by kernel_rfl) calm_put rfl (.pointer (some ⟨x.2, 1, none⟩)) (fun _ _ => by go_simp) hS ?_
      simp only [Act.put, List.setIfInBounds_toArray, List.set_cons_zero, List.set_cons_succ]
      refine late_val 5 (some 31) rfl rfl (by kernel_rfl) (by kernel_rfl) (by kernel_rfl) [8, 9, 10, 11] (by kernel_rfl) calm_put rfl (.int .i64 nm) (fun w' h => by have c := h.2.1; go_simp) hS ?_
      simp only [Act.put, List.setIfInBounds_toArray, List.set_cons_zero, List.set_cons_succ]
      refine late_val 6 (some 32) rfl rfl (by kernel_rfl) (by kernel_rfl) (by kernel_rfl) [7, 8, 9, 10, 11] (by kernel_rfl) calm_put rfl (.pointer (some ⟨sb, 2, none⟩)) (fun _ _ => by go_simp) hS ?_
      simp only [Act.put, List.setIfInBounds_toArray, List.set_cons_zero, List.set_cons_succ]
      refine late_val 7 (some 33) rfl rfl (by kernel_rfl) (by kernel_rfl) (by kernel_rfl) [8, 9, 10, 11] (by kernel_rfl) calm_put rfl (.int .i64 (lm : Int)) (fun w' h => by have c := h.2.2; go_simp) hS ?_
      simp only [Act.put, List.setIfInBounds_toArray, List.set_cons_zero, List.set_cons_succ]
      refine late_val 8 (some 34) rfl rfl (by kernel_rfl) (by kernel_rfl) (by kernel_rfl) [9, 10, 11] (by kernel_rfl) calm_put rfl (.int .i64 (nm - (lm : Int))) (fun _ _ => by go_simp) hS ?_
      simp only [Act.put, List.setIfInBounds_toArray, List.set_cons_zero, List.set_cons_succ]
      have keepS : ∀ w', (∀ b, b < W.heap.size → (Value.slice ov (freesOf pre).length cap).ownBlock ≠ some b → w'.heap[b]? = W.heap[b]?) → (RowAt w' w.heap.size 24 #[.slice ov (freesOf pre).length cap] ∧ w'.cell? ⟨x.2, 1, none⟩ = some (.int .i64 nm) ∧ w'.cell? ⟨sb, 2, none⟩ = some (.int .i64 (lm : Int))) := fun w' hk => by
        have c0 : w'.cell? ⟨x.2, 1, none⟩ = W.cell? ⟨x.2, 1, none⟩ := World.cell?_of_block (w := W) (a := ⟨x.2, 1, none⟩) (hk x.2 hxl HXO.out)
        have c1 : w'.cell? ⟨sb, 2, none⟩ = W.cell? ⟨sb, 2, none⟩ := World.cell?_of_block (w := W) (a := ⟨sb, 2, none⟩) (hk sb hsb HSO.out)
        exact ⟨by unfold RowAt; rw [hk _ hwz HBO.out]; exact HRV.out, by rw [c0]; exact HD.out.2, by rw [c1]; exact hcl⟩
      obtain ⟨W5, hW5⟩ : ∃ W5, W5 = (W.drewN nq).drew := ⟨_, rfl⟩
      have hB5 : Below W.heap.size W W5 := by rw [hW5]; exact ⟨rfl, rfl, rfl, Nat.le_refl _, fun _ _ => rfl⟩
      have hs5 : W5.heap.size = W.heap.size := by rw [hW5]; rfl
      rw [← hW5]
      have hS2 := keepS (W5.alloc (.cells #[.int .i64 (nm - (lm : Int))] 3)) (fun b hb _ => by rw [Below.heap_alloc _ _ _ (by omega)]; exact hB5.block b hb)
      refine late_ready 9 (some 35) (by kernel_rfl) rfl rfl rfl (.slice (some ⟨W5.heap.size, 0, none⟩) 1 1) (W5.alloc (.cells #[.int .i64 (nm - (lm : Int))] 3)) (by go_simp) (.inr hS2) ?_
      simp only [Act.put, List.setIfInBounds_toArray, List.set_cons_zero, List.set_cons_succ]
      have hO5 : W5.ownsRow (w.heap.size + 1) 3 1 (.slice ov (freesOf pre).length cap) (freesOf pre).length ((freesOf pre).flatMap intL) := own_keep HO.out (fun b hb => hB5.block b (HO.out.lt b hb).2)
      refine late_one 10 (by kernel_rfl) rfl rfl fun K hK => ?_
      refine append_own3_wp _ _ _ 24 rfl (w.heap.size + 1) 3 i0 (.int .i64 0) 1 8 Try.underlying24 hi hz0 hz1 hz2 rfl (by decide) (.slice ov (freesOf pre).length cap) (freesOf pre).length _ rfl (hO5.alloc _) ⟨W5.heap.size, 0, none⟩ 1 1 [.int .i64 (nm - (lm : Int))] rfl rfl (cell_one_new _ _ _) (oneB_cell _) (by omega) (by unfold maxLen; omega) (by omega) (by simp; omega) ?_
      intro v6 w6 hv6 hg6 hb6
      have hs6 := hg6.size
      simp only [World.size_alloc] at hs6 hb6
      have hgx : ∀ b, b < W.heap.size → (Value.slice ov (freesOf pre).length cap).ownBlock ≠ some b → w6.heap[b]? = W.heap[b]? := fun b hb hbo => by
        rw [hg6.block b (by simp; omega) (fun e => hbo e.symm), Below.heap_alloc _ _ _ (by omega)]; exact hB5.block b hb
      have hS6 := keepS w6 hgx
      refine hK.out _ _ (.inr hS6) ?_
      simp only [Act.put, List.setIfInBounds_toArray]
      obtain ⟨o6, c6, rfl⟩ := own_formT hv6
      refine late_one 11 (by kernel_rfl) rfl rfl fun K8 hK8 => ?_
      refine store_at_wp 24 _ _ rfl rfl w.heap.size 0 (.slice o6 ((freesOf pre).length + 1) c6) rfl rfl one_slints rfl 24 #[.slice ov (freesOf pre).length cap] hS6.1 (show 0 < 1 by omega) ?_
      intro w7 hR7 hg7 hs7
      refine hK8.out _ _ (.inl ⟨11, by simp, rfl⟩) ?_
      refine late_done (by kernel_rfl) ?_ _
      refine Calm.normal ?_
      have hob : ∀ z, z < W.heap.size → ¬ V z → w7.heap[z]? = W.heap[z]? := fun z hz hv => by
        rw [hg7.block z (by omega) (by intro e; injection e with e; exact hv ((HV.out z).2 (.inl e)))]
        exact hgx z hz (fun e => hv ((HV.out z).2 (.inr e)))
      have HFIN : Hid (∃ V', FreI w (pre ++ [x]) V' w7 ∧ MoreB V V' W ∧ KeepsB V W w7) := by
        refine ⟨fun z => z = w.heap.size ∨ (Value.slice o6 ((freesOf pre).length + 1) c6).ownBlock = some z, ⟨_, fun z => Iff.rfl, hR7, ?_, ?_⟩, ?_, ⟨by omega, hob⟩⟩
        · unfold OwnR
          rw [HRA.out, List.length_append, List.flatMap_append]
          exact own_keep hv6 (fun b hb => hg7.block b (hv6.lt b hb).2 (by intro e; injection e with e; have := (hv6.lt b hb).1; omega))
        · refine HB.out.trans ⟨hg7.os.trans (hg6.os.trans hB5.os), hg7.tape.trans (hg6.tape.trans hB5.tape), hg7.output.trans (hg6.output.trans hB5.output), by omega, fun j hj => ?_⟩
          exact hob j (by omega) (fun h => by
            rcases (HV.out j).1 h with e | e
            · omega
            · have := (HO.out.lt j e).1; omega)
        · intro z hz
          rcases hz with rfl | hz
          · exact .inl ((HV.out _).2 (.inl rfl))
          · rcases hb6 with h | h
            · exact .inl ((HV.out z).2 (.inr (by rw [← h]; exact hz)))
            · rw [h] at hz
              injection hz with hz
              exact .inr (by omega)
      exact HFIN.out
    · have HRA : Hid (freesOf (pre ++ [x]) = freesOf pre) := by unfold Hid; rw [hra, hfr, if_neg hv, List.append_nil]
      clear hra hfr
      have HEX : ∀ k, Hid (∃ V', FreI w (pre ++ [x]) V' (W.drewN k) ∧ MoreB V V' W ∧ KeepsB V W (W.drewN k)) := fun k => by
        refine ⟨V, ⟨_, HV.out, HRV.out, by rw [HRA.out]; exact HO.out, ⟨HB.out.os, HB.out.tape, HB.out.output, HB.out.size, HB.out.block⟩⟩, MoreB.refl _ _, ⟨Nat.le_refl _, fun _ _ _ => rfl⟩⟩
      by_cases hk1 : kd = 1
      · subst hk1
        have hle : ¬ (lm : Int) ≤ nm := fun h => hv ⟨rfl, h⟩
        gi_wp2
        refine quiet_round (by kernel_rfl) (by kernel_rfl) (by kernel_rfl) ?_
        repeat (go_big_quiet_step (fail))
        refine wpQuiet_nil ?_
        rintro _ ⟨nq, rfl⟩
        gi_wp2
        exact (HEX nq).out
      · have hkb : (kd == 1) = false := by simpa using hk1
        gi_wp2
        refine quiet_round (by kernel_rfl) (by kernel_rfl) (by kernel_rfl) ?_
        repeat (go_big_quiet_step (fail))
        refine wpQuiet_nil ?_
        rintro _ ⟨nq, rfl⟩
        gi_wp2
        exact (HEX nq).out
  case done =>
    rintro D ys V W hD hS ⟨v, hV, hRv, hO, hB⟩ hVD hK
    obtain ⟨ov, cap, hvv⟩ := own_formT hO
    subst hvv
    have hfl := Lm.free_len t 0
    rw [← freesOf_all hS] at hfl
    have HFA := hideT' (freesOf_all hS)
    have hcv : W.cell? ⟨w.heap.size, 0, none⟩ = some (.slice ov (freesOf ys).length cap) := by rw [cell_of_row _ _ _ _ _ _ hRv]; rfl
    have HC1 := hideT' (sorted_any (w.heap.size + 1) (freesOf ys) _ W hO (by omega))
    have HRV := hideT' hRv
    have HLT : Hid (∀ g, (Value.slice ov (freesOf ys).length cap).ownBlock = some g → w.heap.size + 1 ≤ g) := fun g e => (hO.lt g e).1
    have HB := hideT' hB
    have HKD := hideT' hK
    have HVD := hideT' hVD
    have HV := hideT' hV
    clear hO hB hK hRv hV hVD
    gi_wp2
    refine ⟨trivial, ?_⟩
    gi_at_call 94
    refine (callsIn_wide.2 HC1.out).mono ?_
    rintro e w5 ⟨rfl, hO5, hg5⟩
    have hDV : (Value.slice ov (freesOf ys).length cap).ownBlock ≠ some D := fun e => HVD.out ((HV.out D).2 (.inr e))
    have hDl : D < W.heap.size := (Array.getElem?_eq_some_iff.1 HKD.out).1
    have hwl : w.heap.size < W.heap.size := HRV.out.lt
    have hK5 : w5.heap[D]? = some (.deferred (some [])) := by rw [hg5.block D hDl (fun e => hDV e.symm)]; exact HKD.out
    have hR5 : RowAt w5 w.heap.size 24 #[.slice ov (freesOf ys).length cap] := HRV.out.grown hg5 (fun e => by have := HLT.out _ e.symm; omega)
    have hcv5 : w5.cell? ⟨w.heap.size, 0, none⟩ = some (.slice ov (freesOf ys).length cap) := by rw [cell_of_row _ _ _ _ _ _ hR5]; rfl
    have hB5 : Below w.heap.size w w5 := HB.out.grown hg5 HB.out.size (fun k e => by have := HLT.out k e; omega)
    have HC2 := hideT' (compact_any (w.heap.size + 1) _ _ w5 hO5 (by rw [List.length_mergeSort]; omega))
    have HCE : Go.Lib.compact ((freesOf ys).mergeSort fun x y => decide (x ≤ y)) = FrL t := by rw [HFA.out]; exact FrL_compact HOK.out
    rw [HCE] at HC2
    clear HCE
    have hs5 := hg5.size
    have HK5 := hideT' hK5
    have HB5 := hideT' hB5
    have HDV := hideT' hDV
    clear hO5 hg5 hK5 hR5 hB5 hcv hDV
    gi_wp2
    refine ⟨trivial, ?_⟩
    gi_at_call 95
    refine (callsIn_wide.2 HC2.out).mono ?_
    rintro e w6 ⟨⟨u, rfl, hO6⟩, hg6⟩
    have hK6 : w6.heap[D]? = some (.deferred (some [])) := by rw [hg6.block D (by omega) (fun e => HDV.out e.symm)]; exact HK5.out
    have hB6 : Below w.heap.size w w6 := HB5.out.grown hg6 HB5.out.size (fun k e => by have := HLT.out k e; omega)
    have HK6 := hideT' hK6
    have HB6 := hideT' hB6
    have HO6 := hideT' hO6
    clear hO6 hg6 hK6 hB6 hcv5
    gi_wp2
    refine leave_marks (v := u) HK6.out (by simp [results, Try.results55, go_sem]) ⟨⟨_, rfl, ?_⟩, below_put HB6.out (by omega) HB6.out.size⟩
    have h1 := HO6.out
    exact ⟨h1.1, h1.2.imp id fun ⟨g, cap, cur, h1, h2, h3, h4⟩ => ⟨g, cap, cur, h1, by omega, row_put h3 HK6.out rfl, h4⟩⟩
end Go.Proofs.Ytbnagagdboeedaa
