/-
  What tellTree answers.
-/
import Derived.Test.YtgolfbjfopoeeaaDoorImplIsGood
import Derived.Maps.OwnIn
namespace Go.Proofs.YtgolfbjfopoeeaaDoor
open Go.RowKit Go.Shelf BL
set_option linter.unusedVariables false
attribute [local go_sem] Oper.semAt_some

set_option maxHeartbeats 1000000 in
theorem under_any (k n u up : Int) (w : World) :
    Calls Tryd.prog 146 #[.agg #[.int .i64 k, .int .i64 n, .int .i64 u], .int .i64 up] w fun e w' => e = .returned (.agg #[.int .i64 k, .int .i64 n, .int .i64 up]) ∧ Below w.heap.size w w' := by
  have hz := zero_term.1
  have hRx : RowAt ((w.alloc (.cells #[.int .i64 k, .int .i64 n, .int .i64 up] 51)).alloc (.cells #[.int .i64 k, .int .i64 n, .int .i64 up] 51)) (w.heap.size + 1) 51 #[.int .i64 k, .int .i64 n, .int .i64 up] := by
    have := RowAt.new (w.alloc (.cells #[.int .i64 k, .int .i64 n, .int .i64 up] 51)) 51 #[.int .i64 k, .int .i64 n, .int .i64 up]
    rwa [World.size_alloc] at this
  have HRX := hideT' hRx
  clear hRx
  go_enter Tryd.func146, Tryd.ntmps146
  go_wp2
  refine bodyPost_ret (v := .agg #[.int .i64 k, .int .i64 n, .int .i64 up]) (results_cell_row Tryd.results146 _ _ (w.heap.size + 1) 51 #[.int .i64 k, .int .i64 n, .int .i64 up] (0, 0) _ rfl HRX.out Tryd.underlying51 rfl zero_term.2) rfl ⟨rfl, ?_⟩
  exact ((Below.refl _ _).alloc (Nat.le_refl _) _).alloc (by simp) _

theorem lateR {ops : Array Oper} {Q : Exit → Act → World → Prop} {a : Act} {w : World} {id l n : Nat} (late : List Nat) (S : World → Prop) (hm : Tryd.prog.follows .mixedOrders = true) (hd : noDefer ops = true)
    (h : BL.wpAnyL Tryd.prog .any ops (Calm Q) late S ops.size (Array.replicate ops.size false) a w.drew) : (Code.region id ops true).wpIn (Fence.wide.inRound l) n Tryd.prog Q a w :=
  wpIn_mono (region_round hm hd (fun ⟨_, _, h⟩ => h) (BL.wpAny_of_late _ _ _ _ h)) Calm.imp
theorem one_slterm : (Tryd.prog.info? 26).map (·.size) = some 1 := by kernel_rfl
theorem term_cells (w : World) (d : Int × Int × Int) : ∀ j u, (termL d)[j]? = some u → (w.alloc (.cells #[.int .i64 d.1, .int .i64 d.2.1, .int .i64 d.2.2] 51)).cell? ((⟨w.heap.size, 0, none⟩ : Addr).add j) = some u := fun j u hu => by
  have e : (⟨w.heap.size, 0, none⟩ : Addr).add j = ⟨w.heap.size, j, none⟩ := by unfold Addr.add; split <;> simp_all
  rw [e, cell_of_row _ w.heap.size j _ 51 (0, 0) (RowAt.new w 51 #[.int .i64 d.1, .int .i64 d.2.1, .int .i64 d.2.2])]
  simpa [termL] using hu
/-- The nodes of places that a walk came by. -/
def spotsT (pre : List (Spot × Nat)) : List (Int × Int × Int) := pre.map fun x => (x.1.t.kd, x.1.t.nm, x.1.up)
theorem spotsT_app (pre : List (Spot × Nat)) (x : Spot × Nat) : spotsT (pre ++ [x]) = spotsT pre ++ [(x.1.t.kd, x.1.t.nm, x.1.up)] := by simp [spotsT]
theorem spotsT_len (pre : List (Spot × Nat)) : (spotsT pre).length = pre.length := by simp [spotsT]
theorem spotsT_all {pre : List (Spot × Nat)} {t : Lm} (h : pre.map Prod.fst = t.walk 0 (-1) 0) : spotsT pre = tri (t.flat 0 (-1)) := by
  unfold tri
  rw [← Lm.walk_flat t 0 (-1) 0, ← h, List.map_map, List.map_map]
  rfl
def TellI (w : World) (pre : List (Spot × Nat)) (V : Nat → Prop) (W : World) : Prop :=
  ∃ v, (∀ z, V z ↔ (z = w.heap.size ∨ v.ownBlock = some z)) ∧ RowAt W w.heap.size 26 #[v] ∧ OwnR W (w.heap.size + 1) v 51 termL 3 (spotsT pre) ∧ Below w.heap.size w W
theorem TellI.lt {w : World} {pre : List (Spot × Nat)} {V : Nat → Prop} {W : World} (h : TellI w pre V W) : ∀ z, V z → z < W.heap.size := by
  obtain ⟨v, hV, hR, hO, hB⟩ := h
  intro z hz
  rcases (hV z).1 hz with rfl | hz
  · exact hR.lt
  · exact (hO.lt z hz).2
theorem TellI.step {w : World} {pre : List (Spot × Nat)} {V : Nat → Prop} {A B : World} {row : Option Nat} (h : TellI w pre V A) (hg : A.grownBy B row) (hr : ∀ r, row = some r → ¬ V r ∧ w.heap.size ≤ r) : TellI w pre V B := by
  obtain ⟨v, hV, hR, hO, hB⟩ := h
  refine ⟨v, hV, hR.grown hg (fun e => (hr _ e.symm).1 ((hV _).2 (.inl rfl))), own_keep hO (fun g hgo => hg.block g (hO.lt g hgo).2 (fun e => (hr _ e.symm).1 ((hV _).2 (.inr hgo)))), hB.grown hg hB.size (fun k e => (hr k e).2)⟩
/-- How a round of tellTree begins. -/
def tellAct (w : World) (b sb : Nat) (x : Spot × Nat) : Act := { tmps := #[.pointer (some ⟨b, 0, none⟩), undef, .slice none 0 0, .bool false, .pointer (some ⟨w.heap.size, 0, none⟩), .pointer (some ⟨sb, 0, none⟩), .pointer (some ⟨x.2, 0, none⟩), .pointer (some ⟨b, 0, none⟩), .bool true, .bool false, .pointer (some ⟨b, 0, none⟩), .func (.func 79) #[] #[.pointer (some ⟨w.heap.size + 1, 0, none⟩)], .agg #[.int .i64 (x.1.at_ : Int), .int .i64 x.1.up, .int .i64 (x.1.lam : Int)], .pointer (some ⟨x.2, 0, none⟩), undef, undef, undef, undef, undef, undef, undef, undef, undef, undef, undef, undef], defers := [] }
/-- What tellTree answers. -/
def ToldT (w : World) (t : Lm) (e : Ending) (w' : World) : Prop :=
  ∃ u, e = .returned (.tuple #[u, .bool t.good]) ∧ OwnR w' w.heap.size u 51 termL 3 (if t.good then tri (t.flat 0 (-1)) else [])

set_option maxRecDepth 100000 in
set_option maxHeartbeats 8000000 in
theorem tellTree_any (t : Lm) (b : Nat) (P : Nat → Prop) (w0 : World) (hT : TrIn w0 P t b) (hs : t.sz ≤ 1000000) :
    Calls Tryd.prog 35 #[.pointer (some ⟨b, 0, none⟩)] w0 fun e w' => ToldT w0 t e w' ∧ Below w0.heap.size w0 w' := by
  refine (callsIn_wide (n := 4)).1 ?_
  have HT0 := hideT' hT
  have HG := hideT' (isGood_any t b P w0 hT hs)
  clear hT
  obtain ⟨r, hr⟩ : ∃ r, r = t.good := ⟨_, rfl⟩
  rw [← hr] at HG
  have HR := hideT' hr
  clear hr
  refine callsIn_of_wp_marks Tryd.func35 rfl trivial ?_ rfl
  simp only [Tryd.ntmps35, List.size_toArray, List.length_cons, List.length_nil, Nat.reduceAdd, Nat.reduceSub, Array.replicate_succ, Array.replicate_zero, List.push_toArray, List.append_toArray, List.nil_append, List.cons_append]
  gi_wp2
  refine ⟨trivial, ?_⟩
  gi_at_call 61
  refine (callsIn_wide.2 HG.out).mono ?_
  rintro e w ⟨rfl, hB0⟩
  have HB0 := hideT' hB0
  have HT : Hid (TrIn w P t b) := TrIn.below hB0 HT0.out
  clear hB0
  cases r with
  | false =>
    gi_wp2
    exact ⟨_, (by simp [results, Tryd.results35, go_sem]; rfl), ⟨.slice none 0 0, by rw [← HR.out], by rw [← HR.out]; exact World.ownsRow_nil _ _ _ _⟩, HB0.out⟩
  | true =>
  have h150 : t.sz ≤ 150 := (Lm.good_sz HR.out.symm).1
  gi_wp2
  refine ⟨trivial, ?_⟩
  gi_at_call 62
  refine (callsIn_wide.2 (walk_any b _)).mono ?_
  rintro e w3 ⟨rfl, hw3⟩
  have hs3 : w3.heap.size = w.heap.size + 2 := by rw [hw3]; simp
  have hB3 : Below w.heap.size w w3 := by rw [hw3]; exact ((Below.refl _ _).alloc (Nat.le_refl _) _).alloc (by simp) _
  have hI0 : TellI w [] (fun z => z = w.heap.size) w3 := by
    refine ⟨.slice none 0 0, fun z => ?_, ?_, World.ownsRow_nil _ _ _ _, hB3⟩
    · simp [Value.ownBlock]
    · rw [hw3]; exact RowAt.old (RowAt.new _ _ _) _
  have hcx : w3.cell? ⟨w.heap.size + 1, 0, none⟩ = some (.pointer (some ⟨b, 0, none⟩)) := by
    have hr : RowAt w3 (w.heap.size + 1) 54 #[.pointer (some ⟨b, 0, none⟩)] := by
      rw [hw3]
      have := RowAt.new (w.alloc (.cells #[.slice none 0 0] 26)) 54 #[.pointer (some ⟨b, 0, none⟩)]
      rwa [World.size_alloc] at this
    rw [cell_of_row _ _ _ _ _ _ hr]; rfl
  have HI0 := hideT' hI0
  have HB3 := hideT' hB3
  have HCX := hideT' hcx
  clear hw3 hI0 hB3 hcx
  simp only [World.size_alloc]
  gi_wp2
  refine range_own (gf := 79) (lb := #[.pointer (some ⟨w.heap.size + 1, 0, none⟩)]) (by rfl) (enters_of Tryd.func79 (by kernel_rfl) rfl) encS (fun x => rfl) _ _ _ (walk_seq (w.heap.size + 1) t b hs)
    (fun pre x V V' W hVV h => ⟨h.1, TrIn.mono (fun z hz _ hv => hz (hVV z hv)) h.2⟩)
    (TellI w) (fun s V A h => h.lt) (fun s V A B row h hg hr => h.step hg (fun r e => ⟨(hr r e).1, by have := (hr r e).2; omega⟩)) (fun z => z = w.heap.size) HI0.out ?need
    (fun pre x V c W => ∃ sb, c = tellAct w b sb x ∧ pre.length < t.sz ∧ TellI w pre V W ∧ RowAt W sb 112 #[.int .i64 (x.1.at_ : Int), .int .i64 x.1.up, .int .i64 (x.1.lam : Int)] ∧ ¬ V sb ∧ TrIn W (fun z => ¬ V z) x.1.t x.2) ?ax ?assign ?body ?done
  case need =>
    intro B V hg hV
    refine ⟨TrIn.keep (w := w) (P := P) (by have := hg.size; omega) (fun x _ hx => ?_) (fun x _ hx hv => ?_) HT.out, ?_⟩
    · rw [hg.block x (by omega) (by simp)]; exact HB3.out.block x hx
    · rcases hV x hv with h | h <;> omega
    · rw [World.cell?_of_block (w := w3) (a := ⟨w.heap.size + 1, 0, none⟩) (hg.block _ (by simp; omega) (by simp))]; exact HCX.out
  case ax =>
    rintro s x V c A B row ⟨sb, h1, hl, h2, h3, h4, h5⟩ hg hr
    exact ⟨sb, h1, hl, h2.step hg (fun r e => ⟨(hr r e).1.1, by have := (hr r e).1.2; omega⟩), TrIn.turn.row_same h3 hg (fun r e => (hr r e).2), h4, TrIn.turn hg (fun r e => (hr r e).2) h5⟩
  case assign =>
    intro l pre x V W K hNx hI hK
    have HI := hideT' hI
    have HK := hideT' hK
    have HNX := hideT' hNx
    unfold encS
    clear hI hK hNx
    gi_wp2
    have hal : Below W.heap.size W (W.alloc (.cells #[.int .i64 (x.1.at_ : Int), .int .i64 x.1.up, .int .i64 (x.1.lam : Int)] 112)) := (Below.refl _ _).alloc (Nat.le_refl _) _
    obtain ⟨⟨post, hpo⟩, hTx⟩ := HNX.out
    have hlen := congrArg List.length hpo
    rw [Lm.walk_len, List.length_append, List.length_map, List.length_cons] at hlen
    exact HK.out _ _ V ⟨W.heap.size, rfl, by omega, HI.out.step (row := none) ⟨hal.os, hal.tape, hal.output, hal.size, fun k hk _ => hal.block k hk⟩ (fun r e => by cases e), RowAt.new _ _ _, fun h => by have := HI.out.lt _ h; omega, TrIn.below hal hTx⟩ (MoreB.refl _ _) (KeepsB.below hal)
  case body =>
    rintro l pre x V c W ⟨sb, rfl, hpl, hI, hR, hVs, hTx⟩
    unfold tellAct
    obtain ⟨v, hV, hRv, hO, hB⟩ := hI
    obtain ⟨ov, cap, hvv⟩ := own_formT hO
    rw [spotsT_len] at hvv
    subst hvv
    obtain ⟨u2, d0, d1, d2⟩ := hTx.own3
    obtain ⟨kd, hkd⟩ : ∃ kd, kd = x.1.t.kd := ⟨_, rfl⟩
    obtain ⟨nm, hnm⟩ : ∃ nm, nm = x.1.t.nm := ⟨_, rfl⟩
    rw [← hkd] at d0
    rw [← hnm] at d1
    have HKN : Hid ((x.1.t.kd, x.1.t.nm, x.1.up) = (kd, nm, x.1.up)) := by unfold Hid; rw [hkd, hnm]
    have hxl := hTx.lt
    have hwz := hRv.lt
    have hsb := hR.lt
    have HXO : Hid ((Value.slice ov pre.length cap).ownBlock ≠ some x.2) := fun e => hTx.inP ((hV _).2 (.inr e))
    have HBO : Hid ((Value.slice ov pre.length cap).ownBlock ≠ some w.heap.size) := fun e => by have := (hO.lt _ e).1; omega
    have HSO : Hid ((Value.slice ov pre.length cap).ownBlock ≠ some sb) := fun e => hVs ((hV _).2 (.inr e))
    have HV := hideT' hV
    have HRV := hideT' hRv
    have HRS := hideT' hR
    have HO : Hid (W.ownsRow (w.heap.size + 1) 51 3 (.slice ov pre.length cap) pre.length ((spotsT pre).flatMap termL)) := by unfold Hid; have := hO; unfold OwnR at this; rw [spotsT_len] at this; exact this
    have HB := hideT' hB
    have HD := hideT' (And.intro d0 (And.intro d1 d2))
    have hS : RowAt W.drew w.heap.size 26 #[.slice ov pre.length cap] ∧ RowAt W.drew sb 112 #[.int .i64 (x.1.at_ : Int), .int .i64 x.1.up, .int .i64 (x.1.lam : Int)] ∧ W.drew.cell? ⟨x.2, 0, none⟩ = some (.int .i64 kd) ∧ W.drew.cell? ⟨x.2, 1, none⟩ = some (.int .i64 nm) ∧ W.drew.cell? ⟨x.2, 2, none⟩ = some (.int .i64 u2) := ⟨hRv, hR, d0, d1, d2⟩
    clear hkd hnm hTx hV hRv hR hO hB hVs d0 d1 d2
    gi_wp2
    refine lateR [11] (fun w' => RowAt w' w.heap.size 26 #[.slice ov pre.length cap] ∧ RowAt w' sb 112 #[.int .i64 (x.1.at_ : Int), .int .i64 x.1.up, .int .i64 (x.1.lam : Int)] ∧ w'.cell? ⟨x.2, 0, none⟩ = some (.int .i64 kd) ∧ w'.cell? ⟨x.2, 1, none⟩ = some (.int .i64 nm) ∧ w'.cell? ⟨x.2, 2, none⟩ = some (.int .i64 u2)) (by kernel_rfl) (by kernel_rfl) ?_
    refine late_val 0 (some 14) rfl rfl (by kernel_rfl) (by kernel_rfl) (by kernel_rfl) [10, 11] (by kernel_rfl) calm_put rfl (.slice ov pre.length cap) (fun w' h => by have c : w'.cell? ⟨w.heap.size, 0, none⟩ = some (.slice ov pre.length cap) := (by rw [cell_of_row w' _ _ _ _ _ h.1]; rfl); go_simp) hS ?_
    simp only [Act.put, List.setIfInBounds_toArray, List.set_cons_zero, List.set_cons_succ]
    refine late_val 1 (some 15) rfl rfl (by kernel_rfl) (by kernel_rfl) (by kernel_rfl) [2, 3, 4, 5, 8, 9, 10, 11] (by kernel_rfl) calm_put rfl (.pointer (some ⟨x.2, 0, none⟩)) (fun _ _ => by go_simp) hS ?_
    simp only [Act.put, List.setIfInBounds_toArray, List.set_cons_zero, List.set_cons_succ]
    refine late_val 2 (some 16) rfl rfl (by kernel_rfl) (by kernel_rfl) (by kernel_rfl) [3, 4, 5, 8, 9, 10, 11] (by kernel_rfl) calm_put rfl (.pointer (some ⟨x.2, 0, none⟩)) (fun _ _ => by go_simp) hS ?_
    simp only [Act.put, List.setIfInBounds_toArray, List.set_cons_zero, List.set_cons_succ]
    refine late_val 3 (some 17) rfl rfl (by kernel_rfl) (by kernel_rfl) (by kernel_rfl) [4, 5, 8, 9, 10, 11] (by kernel_rfl) calm_put rfl (.pointer (some ⟨x.2, 0, none⟩)) (fun _ _ => by go_simp) hS ?_
    simp only [Act.put, List.setIfInBounds_toArray, List.set_cons_zero, List.set_cons_succ]
    refine late_val 4 (some 18) rfl rfl (by kernel_rfl) (by kernel_rfl) (by kernel_rfl) [5, 8, 9, 10, 11] (by kernel_rfl) calm_put rfl (.agg #[.int .i64 kd, .int .i64 nm, .int .i64 u2]) (fun w' h => by obtain ⟨d0, d1, d2⟩ := h.2.2; go_simp) hS ?_
    simp only [Act.put, List.setIfInBounds_toArray, List.set_cons_zero, List.set_cons_succ]
    refine late_val 5 (some 19) rfl rfl (by kernel_rfl) (by kernel_rfl) (by kernel_rfl) [8, 9, 10, 11] (by kernel_rfl) calm_put rfl (.iface 51 (.agg #[.int .i64 kd, .int .i64 nm, .int .i64 u2])) (fun _ _ => by go_simp) hS ?_
    simp only [Act.put, List.setIfInBounds_toArray, List.set_cons_zero, List.set_cons_succ]
    refine late_val 6 (some 20) rfl rfl (by kernel_rfl) (by kernel_rfl) (by kernel_rfl) [7, 8, 9, 10, 11] (by kernel_rfl) calm_put rfl (.pointer (some ⟨sb, 1, none⟩)) (fun _ _ => by go_simp) hS ?_
    simp only [Act.put, List.setIfInBounds_toArray, List.set_cons_zero, List.set_cons_succ]
    refine late_val 7 (some 21) rfl rfl (by kernel_rfl) (by kernel_rfl) (by kernel_rfl) [8, 9, 10, 11] (by kernel_rfl) calm_put rfl (.int .i64 x.1.up) (fun w' h => by have c : w'.cell? ⟨sb, 1, none⟩ = some (.int .i64 x.1.up) := (by rw [cell_of_row w' _ _ _ _ _ h.2.1]; rfl); go_simp) hS ?_
    simp only [Act.put, List.setIfInBounds_toArray, List.set_cons_zero, List.set_cons_succ]
    refine late_call 8 (some 22) (by kernel_rfl) rfl rfl rfl 146 #[.agg #[.int .i64 kd, .int .i64 nm, .int .i64 u2], .int .i64 x.1.up] (by go_simp; rw [meth_under 313]; go_simp) _ (under_any kd nm u2 x.1.up W.drew) ?_
    rintro e w5 ⟨rfl, hW5⟩
    have hW5 : Below W.heap.size W w5 := ⟨hW5.os, hW5.tape, hW5.output, hW5.size, hW5.block⟩
    have hs5 := hW5.size
    have keepS : ∀ w', w5.heap.size ≤ w'.heap.size → (∀ b, b < W.heap.size → (Value.slice ov pre.length cap).ownBlock ≠ some b → w'.heap[b]? = W.heap[b]?) → (RowAt w' w.heap.size 26 #[.slice ov pre.length cap] ∧ RowAt w' sb 112 #[.int .i64 (x.1.at_ : Int), .int .i64 x.1.up, .int .i64 (x.1.lam : Int)] ∧ w'.cell? ⟨x.2, 0, none⟩ = some (.int .i64 kd) ∧ w'.cell? ⟨x.2, 1, none⟩ = some (.int .i64 nm) ∧ w'.cell? ⟨x.2, 2, none⟩ = some (.int .i64 u2)) := fun w' _ hk => by
      have c0 : ∀ i, w'.cell? ⟨x.2, i, none⟩ = W.cell? ⟨x.2, i, none⟩ := fun i => World.cell?_of_block (w := W) (a := ⟨x.2, i, none⟩) (hk x.2 hxl HXO.out)
      exact ⟨by unfold RowAt; rw [hk _ hwz HBO.out]; exact HRV.out, by unfold RowAt; rw [hk _ hsb HSO.out]; exact HRS.out, by rw [c0]; exact HD.out.1, by rw [c0]; exact HD.out.2.1, by rw [c0]; exact HD.out.2.2⟩
    have hS1 := keepS w5 (Nat.le_refl _) (fun b hb _ => hW5.block b hb)
    refine ⟨_, rfl, .inr hS1, ?_⟩
    simp only [Act.put, List.setIfInBounds_toArray, List.set_cons_zero, List.set_cons_succ]
    have hS2 := keepS (w5.alloc (.cells #[.int .i64 kd, .int .i64 nm, .int .i64 x.1.up] 51)) (by simp) (fun b hb _ => by rw [Below.heap_alloc _ _ _ (by omega)]; exact hW5.block b hb)
    refine late_ready 9 (some 23) (by kernel_rfl) rfl rfl rfl (.slice (some ⟨w5.heap.size, 0, none⟩) 1 1) (w5.alloc (.cells #[.int .i64 kd, .int .i64 nm, .int .i64 x.1.up] 51)) (by go_simp) (.inr hS2) ?_
    simp only [Act.put, List.setIfInBounds_toArray, List.set_cons_zero, List.set_cons_succ]
    have hO5 : w5.ownsRow (w.heap.size + 1) 51 3 (.slice ov pre.length cap) pre.length ((spotsT pre).flatMap termL) := own_keep HO.out (fun b hb => hW5.block b (HO.out.lt b hb).2)
    obtain ⟨i0, hi, hzz0, hzz1, hzz2⟩ := info_parts info_term
    refine late_one 10 (by kernel_rfl) rfl rfl fun K hK => ?_
    refine append_own3_wp _ _ _ 26 rfl (w.heap.size + 1) 51 i0 (.agg #[.int .i64 0, .int .i64 0, .int .i64 0]) 3 24 Tryd.underlying26 hi hzz0 hzz1 hzz2 rfl (by decide) (.slice ov pre.length cap) pre.length _ rfl (hO5.alloc _) ⟨w5.heap.size, 0, none⟩ 1 1 (termL (kd, nm, x.1.up)) rfl rfl (term_cells w5 (kd, nm, x.1.up)) (termL_one _) (by omega) (by unfold maxLen; omega) (by omega) (by simp; omega) ?_
    intro v6 w6 hv6 hg6 hb6
    have hs6 := hg6.size
    simp only [World.size_alloc] at hs6 hb6
    have hgx : ∀ b, b < W.heap.size → (Value.slice ov pre.length cap).ownBlock ≠ some b → w6.heap[b]? = W.heap[b]? := fun b hb hbo => by
      rw [hg6.block b (by simp; omega) (fun e => hbo e.symm), Below.heap_alloc _ _ _ (by omega)]; exact hW5.block b hb
    have hS6 := keepS w6 (by omega) hgx
    refine hK.out _ _ (.inr hS6) ?_
    simp only [Act.put, List.setIfInBounds_toArray]
    obtain ⟨o6, c6, rfl⟩ := own_formT hv6
    refine late_one 11 (by kernel_rfl) rfl rfl fun K8 hK8 => ?_
    refine store_at_wp 26 _ _ rfl rfl w.heap.size 0 (.slice o6 (pre.length + 1) c6) rfl rfl one_slterm rfl 26 #[.slice ov pre.length cap] hS6.1 (show 0 < 1 by omega) ?_
    intro w7 hR7 hg7 hs7
    refine hK8.out _ _ (.inl ⟨11, by simp, rfl⟩) ?_
    refine late_done (by kernel_rfl) ?_ _
    refine Calm.normal ?_
    have hob : ∀ z, z < W.heap.size → ¬ V z → w7.heap[z]? = W.heap[z]? := fun z hz hv => by
      rw [hg7.block z (by omega) (by intro e; injection e with e; exact hv ((HV.out z).2 (.inl e)))]
      exact hgx z hz (fun e => hv ((HV.out z).2 (.inr e)))
    have HFIN : Hid (∃ V', TellI w (pre ++ [x]) V' w7 ∧ MoreB V V' W ∧ KeepsB V W w7) := by
      refine ⟨fun z => z = w.heap.size ∨ (Value.slice o6 (pre.length + 1) c6).ownBlock = some z, ⟨_, fun z => Iff.rfl, hR7, ?_, ?_⟩, ?_, ⟨by omega, hob⟩⟩
      · unfold OwnR
        rw [spotsT_app, List.length_append, List.flatMap_append, spotsT_len, HKN.out]
        exact own_keep hv6 (fun b hb => hg7.block b (hv6.lt b hb).2 (by intro e; injection e with e; have := (hv6.lt b hb).1; omega))
      · refine HB.out.trans ⟨hg7.os.trans (hg6.os.trans hW5.os), hg7.tape.trans (hg6.tape.trans hW5.tape), hg7.output.trans (hg6.output.trans hW5.output), by omega, fun j hj => ?_⟩
        exact hob j (by omega) (fun h => by
          rcases (HV.out j).1 h with e | e
          · omega
          · have := (HO.out.lt j e).1; omega)
      · intro z hz
        rcases hz with rfl | hz
        · exact .inl ((HV.out _).2 (.inl rfl))
        · rcases hb6 with h | h
          · exact .inl ((HV.out z).2 (.inr (by rw [← h]; exact hz)))
          · rw [h] at hz
            injection hz with hz
            exact .inr (by omega)
    exact HFIN.out
  case done =>
    rintro D ys V W hD hS ⟨v, hV, hRv, hO, hB⟩ hVD hK
    obtain ⟨ov, cap, hvv⟩ := own_formT hO
    subst hvv
    have hcv : W.cell? ⟨w.heap.size, 0, none⟩ = some (.slice ov (spotsT ys).length cap) := by rw [cell_of_row _ _ _ _ _ _ hRv]; rfl
    have HOW : Hid (W.ownsRow w0.heap.size 51 3 (.slice ov (spotsT ys).length cap) (tri (t.flat 0 (-1))).length ((tri (t.flat 0 (-1))).flatMap termL)) := by
      unfold Hid
      rw [← spotsT_all hS]
      exact ⟨hO.1, hO.2.imp id fun ⟨g, cap, cur, h1, h2, h3⟩ => ⟨g, cap, cur, h1, by have := HB0.out.size; omega, h3⟩⟩
    have HW : Hid (Below w0.heap.size w0 W) := HB0.out.trans (hB.mono HB0.out.size)
    have HKD := hideT' hK
    have hs0 := HB0.out.size
    clear hO hB hK hRv
    gi_wp2
    refine leave_marks (v := .tuple #[.slice ov (spotsT ys).length cap, .bool true]) HKD.out (by simp [results, Tryd.results35, go_sem]) ⟨⟨_, by rw [← HR.out], ?_⟩, below_put HW.out (by omega) HW.out.size⟩
    rw [← HR.out, if_pos rfl]
    exact ⟨HOW.out.1, HOW.out.2.imp id fun ⟨g, cap, cur, h1, h2, h3, h4⟩ => ⟨g, cap, cur, h1, h2, row_put h3 HKD.out rfl, h4⟩⟩
end Go.Proofs.YtgolfbjfopoeeaaDoor
