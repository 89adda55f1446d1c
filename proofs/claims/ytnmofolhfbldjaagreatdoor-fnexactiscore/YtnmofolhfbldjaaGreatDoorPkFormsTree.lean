/-
  The texts FormsTree, FormsTrees, FormsImpl, IrReadData, RdRead, one behind the other.
-/
import Derived.Test.YtnmofolhfbldjaaGreatDoorPkIrWord
import Derived.Test.YtnmofolhfbldjaaGreatDoorPkHeld
import Derived.Test.YtnmofolhfbldjaaGreatDoorPkReadNumA
import Derived.Test.YtnmofolhfbldjaaGreatDoorPkRdList

/-
  What l4Tree and l4Trees of the model answer.
-/
namespace Go.Proofs.YtnmofolhfbldjaaGreatDoor
open Go.RowKit
set_option linter.unusedVariables false

theorem info_t4 : (Tryz.prog.info? 29).map (fun i => (i.zero, i.size, i.bytes)) = some (some (.agg #[.int .i64 0, .string ⟨#[]⟩, .slice none 0 0]), 3, 48) := by kernel_rfl
theorem zero_t4 : (∀ w, (zeroValue 29).run Tryz.prog w = .ok (.agg #[.int .i64 0, .string ⟨#[]⟩, .slice none 0 0]) w) ∧ (Tryz.prog.info? 29).map (·.size) = some 3 := zero_of_info (by kernel_rfl)
theorem one_slt : (Tryz.prog.info? 26).map (·.size) = some 1 := by kernel_rfl

theorem held_store_t4 {ops : Array Oper} {Q : Exit → Act → World → Prop} {md : Region.Mode} {S : World → Prop} {o : Oper} {fuel : Nat} {listed : Array Bool} {a : Act} {w : World} (i : Nat) (hr : Region.ready md ops listed = [i]) (hi : ops[i]? = some o) (hw : Region.wanted o (yielded ops a.tmps) = true) (x y : Operand) (ho : o.op = .store 29 x y) (hd : o.dst = none)
    (b : Nat) (k : Int) (t : ByteArray) (z : Value) (hz : z.oneCell' = true) (hx : a.eval x = .pointer (some ⟨b, 0, none⟩)) (hy : a.eval y = .agg (fmC k t z)) (c0 : Array Value) (h0 : c0.size = 3) (hN : RowAt w b 29 c0)
    (h : ∀ w', RowAt w' b 29 (fmC k t z) → w.grownBy w' (some b) → w'.heap.size = w.heap.size → S w' ∧ wpAnyH Tryz.prog md ops Q S fuel (listed.setIfInBounds i true) a w') : wpAnyH Tryz.prog md ops Q S (fuel + 1) listed a w := by
  refine wpAnyH_ready hr (by simp) (AllReadyH.cons hi (fun K hK => ?_) AllReadyH.nil)
  rw [if_pos hw]
  refine wp_store_row 29 x y ho b (fmC k t z) hx hy 29 c0 hN (by rw [zero_t4.2]; rfl) (by rw [h0]; rfl) (fmC_one _ _ _ hz) ?_
  rw [hd]
  have := h _ (setRow_heap w b _ _ _ _ hN) ⟨rfl, rfl, rfl, by simp, fun k _ hne => setRow_other w b k _ (by intro e; exact hne (by rw [e]))⟩ (by simp)
  exact hK.out _ _ this.1 (fun _ => this.2)

/-- A tree of the model, in new memory. -/
def TreeAns (w : World) (T : Tr) (e : Ending) (w' : World) : Prop := ∃ k t z, e = .returned (.agg (fmC k t z)) ∧ T.cells w' 29 (NewB w w') (fmL k t z) ∧ z.oneCell' = true ∧ Below w.heap.size w w'

def TreeN (N : Nat) : Prop := ∀ (T : Tr), T.sz ≤ N → ∀ (pre post : List Dm) (up : Int) (v : Value) (w : World) (l : List Dm), l = pre ++ T.flat pre.length up ++ post → NodeAt w v l → l.length ≤ 300 → (∀ d ∈ post, d.u < (pre.length : Int) ∨ (pre.length : Int) + T.sz ≤ d.u) →
  Calls Tryz.prog 12 #[v, .int .i64 (pre.length : Int)] w fun e w' => TreeAns w T e w'

/-- One cell of a row is written, as an operation. -/
theorem store_at_wp {op : Oper} {a : Act} {w : World} {K : Act → World → Prop} {Q : Exit → Act → World → Prop} (ty : TypeId) (x y : Operand) (ho : op.op = .store ty x y) (hd : op.dst = none)
    (b o : Nat) (v : Value) (hx : a.eval x = .pointer (some ⟨b, o, none⟩)) (hy : a.eval y = v) (hi : (Tryz.prog.info? ty).map (·.size) = some 1) (h1 : v.oneCell' = true) (t : TypeId) (cs : Array Value) (hR : RowAt w b t cs) (hon : o < cs.size)
    (h : ∀ w', RowAt w' b t (cs.setIfInBounds o v) → w.grownBy w' (some b) → w'.heap.size = w.heap.size → K a w') : op.wp Tryz.prog a w K Q := by
  have hc : (w.cell? ⟨b, o, none⟩).isSome = true := by rw [cell_of_row w b _ _ _ _ hR, Array.getElem?_eq_getElem hon]; rfl
  unfold Oper.wp execOp
  simp only [ho, hx, hy, Instr.storeAt, Instr.sureAddr, Sem.run_bind, Sem.run_pure, Result.andThen_ok, run_storeVar_cell w b o ty v hc (frozen_of_row w b _ _ _ hR) hi h1]
  have := h _ (heap_setCell_same w b o _ _ _ hR) (grown_set w b o v) (by simp)
  have e : a.put op.dst undef = a := by rw [hd]; rfl
  show K (a.put op.dst undef) _
  rw [e]
  exact this
/-- The one operation that may come up gives a value and changes the world. -/
theorem late_ready {ops : Array Oper} {Q : Exit → Act → World → Prop} {md : Region.Mode} {late : List Nat} {S : World → Prop} {o : Oper} {fuel : Nat} {listed : Array Bool} {a : Act} {w : World} (i : Nat) (d : Option Tmp) (hr : Region.ready md ops listed = [i]) (hi : ops[i]? = some o) (hw : Region.wanted o (yielded ops a.tmps) = true) (hd : o.dst = d) (v : Value) (w' : World)
    (he : (execOp a.eval o).run Tryz.prog w = .ok (.value v) w') (hS : LateOr late S (listed.setIfInBounds i true) w') (h : wpAnyL Tryz.prog md ops Q late S fuel (listed.setIfInBounds i true) (a.put d v) w') : wpAnyL Tryz.prog md ops Q late S (fuel + 1) listed a w := by
  subst hd
  refine late_one i hr hi hw fun K hK => ?_
  unfold Oper.wp
  rw [he]
  exact hK.out _ _ hS h
theorem natI_get' (q : List Nat) (i : Nat) : (natI q).getD i 0 = ((q.getD i 0 : Nat) : Int) := by
  unfold natI
  simp only [List.getD, List.getElem?_map]
  cases q[i]? <;> rfl
theorem szs_app' : ∀ (As Bs : List Tr), szs (As ++ Bs) = szs As + szs Bs
  | [], Bs => by rw [szs]; simp
  | A :: As, Bs => by
    show szs (A :: (As ++ Bs)) = _
    rw [szs, szs, szs_app' As Bs]; omega
theorem store_t4 {ops : Array Oper} {rest : List Oper} {o : Oper} {a : Act} {w : World} {Q : Exit → Act → World → Prop} (hgd : o.guard = none) (x y : Operand) (ho : o.op = .store 29 x y) (hd : o.dst = none)
    (b : Nat) (k : Int) (t : ByteArray) (z : Value) (hz : z.oneCell' = true) (hx : a.eval x = .pointer (some ⟨b, 0, none⟩)) (hy : a.eval y = .agg (fmC k t z)) (c0 : Array Value) (h0 : c0.size = 3) (hN : RowAt w b 29 c0)
    (h : ∀ w', RowAt w' b 29 (fmC k t z) → w.grownBy w' (some b) → w'.heap.size = w.heap.size → wpList Tryz.prog ops Q rest a w') : wpList Tryz.prog ops Q (o :: rest) a w := by
  refine wpList_store_row hgd 29 x y ho b (fmC k t z) hx hy 29 c0 hN (by rw [zero_t4.2]; rfl) (by rw [h0]; rfl) (fmC_one _ _ _ hz) ?_
  rw [hd]
  exact h _ (setRow_heap w b _ _ _ _ hN) ⟨rfl, rfl, rfl, by simp, fun k _ hne => setRow_other w b k _ (by intro e; exact hne (by rw [e]))⟩ (by simp)

theorem rootsAt_get : ∀ (As Bs : List Tr) (T : Tr) (n : Nat), (rootsAt (As ++ T :: Bs) n).getD As.length 0 = n + szs As
  | [], Bs, T, n => by rw [szs]; rfl
  | A :: As, Bs, T, n => by
    show (rootsAt (A :: (As ++ T :: Bs)) n).getD (As.length + 1) 0 = _
    rw [rootsAt, List.getD_cons_succ, rootsAt_get As Bs T (n + A.sz), szs]; omega

set_option maxHeartbeats 4000000 in
set_option maxRecDepth 100000 in
theorem l4Tree_step (N : Nat) (IH : ∀ M, M < N → TreeN M) : TreeN N := by
  intro T hTs pre post up v w l hl hNode h300 hpost
  obtain ⟨k, t, ks⟩ := T
  have hz := zero_t4.1
  have hln : l.length = pre.length + (1 + szs ks) + post.length := by rw [hl, List.length_append, List.length_append, flat_sz, Tr.sz]
  have hm' : pre.length < l.length := by omega
  have hprt := prt_tree hl hpost
  obtain ⟨g, cap, cur, hv, hg, hcs⟩ := hNode.cells pre.length hm'
  have hd : l.getD pre.length default = ⟨k, t, up⟩ := by
    rw [hl, List.getD, List.append_assoc, List.getElem?_append_right (by omega), Nat.sub_self, Tr.flat]; simp
  rw [hd] at hcs
  subst hv
  have hlt : g < w.heap.size := (Array.getElem?_eq_some_iff.1 hg).1
  obtain ⟨n, hn⟩ : ∃ n, n = l.length := ⟨_, rfl⟩
  obtain ⟨m, hm⟩ : ∃ m, m = pre.length := ⟨_, rfl⟩
  rw [← hm] at hprt hpost hm' hcs hl ⊢
  have HPRT := hideT' hprt
  have HL := hideT' hl
  have HPO := hideT' hpost
  have HIH := hideT' IH
  have HG := hideT' hg
  have HCS := hideT' hcs
  have HNo := hideT' hNode
  have HTS := hideT' hTs
  have HLN := hideT' hln
  have HMM := hideT' (And.intro hn hm)
  rw [← hn] at h300 hm' ⊢
  have hmn : (m : Int) < (n : Int) := by omega
  clear IH hl hpost hprt hg hcs hNode hTs hln hd hn hm
  go_enter Tryz.func12, Tryz.ntmps12
  go_wp2_with fail
  obtain ⟨W, hWd⟩ : ∃ W, W = w.alloc (.cells #[.int .i64 0, .string ⟨#[]⟩, .slice none 0 0] 29) := ⟨_, rfl⟩
  have hWs : W.heap.size = w.heap.size + 1 := by rw [hWd]; simp
  have hR0 : RowAt W w.heap.size 29 #[.int .i64 0, .string ⟨#[]⟩, .slice none 0 0] := by rw [hWd]; exact RowAt.new w _ _
  have hW0 : Below w.heap.size w W := by rw [hWd]; exact (Below.refl _ _).alloc (Nat.le_refl _) _
  have hg0 : W.heap[g]? = some (.cells cur 39 (0, 0)) := by rw [hW0.block g hlt]; exact HG.out
  rw [← hWd]
  clear hWd
  refine held_begin (fun w' => w'.heap[g]? = some (.cells cur 39 (0, 0))) (by kernel_rfl) ?_
  have hS : W.drew.heap[g]? = some (.cells cur 39 (0, 0)) := hg0
  refine held_valS 0 (some 8) rfl rfl (by kernel_rfl) (by kernel_rfl) (by kernel_rfl) noPanic_put rfl (.slice (some ⟨g, 0, none⟩) n cap) (fun _ _ => by go_simp) hS ?_
  simp only [Act.put, List.setIfInBounds_toArray, List.set_cons_zero, List.set_cons_succ]
  refine held_valS 1 (some 9) rfl rfl (by kernel_rfl) (by kernel_rfl) (by kernel_rfl) noPanic_put rfl (.int .i64 (m : Int)) (fun _ _ => by go_simp) hS ?_
  simp only [Act.put, List.setIfInBounds_toArray, List.set_cons_zero, List.set_cons_succ]
  refine held_valS 2 (some 10) rfl rfl (by kernel_rfl) (by kernel_rfl) (by kernel_rfl) noPanic_put rfl (.pointer (some ⟨g, m * 3, none⟩)) (fun _ _ => by go_simp) hS ?_
  simp only [Act.put, List.setIfInBounds_toArray, List.set_cons_zero, List.set_cons_succ]
  refine held_valS 3 (some 11) rfl rfl (by kernel_rfl) (by kernel_rfl) (by kernel_rfl) noPanic_put rfl (.pointer (some ⟨g, m * 3, none⟩)) (fun _ _ => by go_simp) hS ?_
  simp only [Act.put, List.setIfInBounds_toArray, List.set_cons_zero, List.set_cons_succ]
  refine held_valS 4 (some 12) rfl rfl (by kernel_rfl) (by kernel_rfl) (by kernel_rfl) noPanic_put rfl (.int .i64 k) (fun w' h => by have c := (HCS.out w' h).1; go_simp) hS ?_
  simp only [Act.put, List.setIfInBounds_toArray, List.set_cons_zero, List.set_cons_succ]
  refine held_valS 5 (some 13) rfl rfl (by kernel_rfl) (by kernel_rfl) (by kernel_rfl) noPanic_put rfl (.slice (some ⟨g, 0, none⟩) n cap) (fun _ _ => by go_simp) hS ?_
  simp only [Act.put, List.setIfInBounds_toArray, List.set_cons_zero, List.set_cons_succ]
  refine held_valS 6 (some 14) rfl rfl (by kernel_rfl) (by kernel_rfl) (by kernel_rfl) noPanic_put rfl (.int .i64 (m : Int)) (fun _ _ => by go_simp) hS ?_
  simp only [Act.put, List.setIfInBounds_toArray, List.set_cons_zero, List.set_cons_succ]
  refine held_valS 7 (some 15) rfl rfl (by kernel_rfl) (by kernel_rfl) (by kernel_rfl) noPanic_put rfl (.pointer (some ⟨g, m * 3, none⟩)) (fun _ _ => by go_simp) hS ?_
  simp only [Act.put, List.setIfInBounds_toArray, List.set_cons_zero, List.set_cons_succ]
  refine held_valS 8 (some 16) rfl rfl (by kernel_rfl) (by kernel_rfl) (by kernel_rfl) noPanic_put rfl (.pointer (some ⟨g, m * 3 + 1, none⟩)) (fun _ _ => by go_simp) hS ?_
  simp only [Act.put, List.setIfInBounds_toArray, List.set_cons_zero, List.set_cons_succ]
  refine held_valS 9 (some 17) rfl rfl (by kernel_rfl) (by kernel_rfl) (by kernel_rfl) noPanic_put rfl (.string t) (fun w' h => by have c := (HCS.out w' h).2.1; go_simp) hS ?_
  simp only [Act.put, List.setIfInBounds_toArray, List.set_cons_zero, List.set_cons_succ]
  refine held_valS 10 (some 18) rfl rfl (by kernel_rfl) (by kernel_rfl) (by kernel_rfl) noPanic_put rfl (.agg (fmC k t (.slice none 0 0))) (fun _ _ => by unfold fmC; go_simp) hS ?_
  simp only [Act.put, List.setIfInBounds_toArray, List.set_cons_zero, List.set_cons_succ]
  refine wpAnyH_ready (rs := [11]) (by kernel_rfl) (by simp) ?_
  have hS5 : (W.drew.alloc (.cells #[.int .i64 0, .string ⟨#[]⟩, .slice none 0 0] 29)).heap[g]? = some (.cells cur 39 (0, 0)) := by rw [Below.heap_alloc W.drew _ _ (show g < W.heap.size by omega)]; exact hg0
  refine ready_val 11 (some 5) rfl rfl rfl (.pointer (some ⟨W.heap.size, 0, none⟩)) (W.drew.alloc (.cells #[.int .i64 0, .string ⟨#[]⟩, .slice none 0 0] 29)) (by go_simp) hS5 ?_ AllReadyH.nil
  simp only [Act.put, List.setIfInBounds_toArray, List.set_cons_zero, List.set_cons_succ]
  refine held_store_t4 12 (by kernel_rfl) rfl rfl (.tmp 5) (.tmp 18) rfl rfl W.heap.size k t (.slice none 0 0) rfl rfl rfl #[.int .i64 0, .string ⟨#[]⟩, .slice none 0 0] rfl (RowAt.new W.drew _ _) ?_
  intro w2 hR2 hg2 hs2
  have hS6 : w2.heap[g]? = some (.cells cur 39 (0, 0)) := by rw [hg2.block g (by simp; omega) (by intro e; injection e; omega)]; exact hS5
  refine ⟨hS6, ?_⟩
  refine wpAnyH_done (by kernel_rfl) ?_ _
  refine NoPanic.normal ?_
  have hs2' : w2.heap.size = w.heap.size + 1 + 1 := by rw [hs2]; simp; omega
  have hW2 : Below w.heap.size w w2 := (hW0.drew.alloc (by simp; omega) _).grown hg2 (by simp; omega) (by intro k hk; cases hk; omega)
  have hR02 : RowAt w2 w.heap.size 29 #[.int .i64 0, .string ⟨#[]⟩, .slice none 0 0] := RowAt.grown (RowAt.old (w := W.drew) hR0 _) hg2 (by intro e; injection e; omega)
  have hR2' : RowAt w2 (w.heap.size + 1) 29 (fmC k t (.slice none 0 0)) := by rw [← hWs]; exact hR2
  have HN2 : Hid (NodeAt w2 (.slice (some ⟨g, 0, none⟩) l.length cap) l) := HNo.out.below hW2 (Nat.le_refl _)
  rw [hWs]
  clear hg2 hs2 hS hS5 hS6 hg0 hR0 hR2 hW0
  go_wp2_with fail
  refine (l3Parts_node (.slice (some ⟨g, 0, none⟩) n cap) l m (m : Int) w2 rfl (by have := HMM.out.1; omega) (by have := HMM.out.1; omega) (by rw [HMM.out.1]; exact HN2.out)).mono ?_
  rintro e w3 ⟨u, rfl, hu, hW3⟩
  rw [HPRT.out, rootsAt_len] at hu
  obtain ⟨ou, cu, rfl⟩ : ∃ o c, u = .slice o ks.length c := by
    rcases hu.2 with ⟨rfl, h⟩ | ⟨_, _, _, rfl, _⟩
    · exact ⟨none, 0, by rw [h]⟩
    · exact ⟨_, _, rfl⟩
  have hs3 := hW3.size
  have hR03 : RowAt w3 w.heap.size 29 #[.int .i64 0, .string ⟨#[]⟩, .slice none 0 0] := hR02.below hW3 (by omega)
  have hR3 : RowAt w3 (w.heap.size + 1) 29 (fmC k t (.slice none 0 0)) := hR2'.below hW3 (by omega)
  have hW3' : Below w.heap.size w w3 := hW2.trans (hW3.mono (by omega))
  have HU := hideT' hu
  have hkl : ks.length ≤ 300 := by have := len_szs ks; have := HLN.out; have := HMM.out.1; omega
  clear hR02 hR2' hW3 hu HN2
  go_wp2_with fail
  go_loopg [23] ks.length (fun gg i wr => ∃ (As Bs : List Tr) (z : Value) (ys : List Value), gg = Bs.length ∧ Hid (ks = As ++ Bs) ∧ i = .int .i64 (As.length : Int) ∧ RowAt wr (w.heap.size + 1) 29 (fmC k t z) ∧ Hid (wr.ownsRow w3.heap.size 29 3 z As.length ys ∧ trsC wr 29 (InB w3 wr z) As ys ∧ (∀ b, b < w3.heap.size → b ≠ w.heap.size + 1 → wr.heap[b]? = w3.heap[b]?)) ∧ w3.heap.size ≤ wr.heap.size ∧ Below w.heap.size w wr)
  case atStart => exact ⟨[], ks, .slice none 0 0, [], rfl, rfl, rfl, hR3, ⟨⟨rfl, .inl ⟨rfl, rfl⟩⟩, by rw [trsC], fun _ _ _ => rfl⟩, Nat.le_refl _, hW3'⟩
  case round =>
    obtain ⟨As, Bs, z, ys, rfl, HA, rfl, hT, HO, hsr, hW⟩ := hrel
    clear hR3
    cases Bs with
    | nil =>
      have hlen : As.length = ks.length := by rw [HA.out]; simp
      have hnl : ¬ (As.length : Int) < (ks.length : Int) := by omega
      have hR0r : RowAt wr w.heap.size 29 #[.int .i64 0, .string ⟨#[]⟩, .slice none 0 0] := by unfold RowAt; rw [HO.out.2.2 w.heap.size (by omega) (by omega)]; exact hR03
      obtain ⟨oz, cz, rfl⟩ := ownT_form HO.out.1
      go_wp2_with (first | (refine wpList_load_row rfl 29 _ rfl (w.heap.size + 1) rfl 29 (fmC k t (.slice oz As.length cz)) (0, 0) _ hT Tryz.underlying29 rfl zero_t4.2 ?_) | (refine store_t4 rfl _ _ rfl rfl w.heap.size k t (.slice oz As.length cz) rfl rfl rfl _ rfl hR0r ?_; intro w5 hR5 hg5 hs5))
      refine bodyPost_ret (v := .agg (fmC k t (.slice oz As.length cz))) (results_cell_row Tryz.results12 _ _ w.heap.size 29 (fmC k t (.slice oz As.length cz)) (0, 0) _ rfl hR5 Tryz.underlying29 rfl zero_t4.2) rfl ⟨k, t, _, rfl, ?_, rfl, ?_⟩
      · have hE : ks = As := by have := HA.out; simpa using this
        have stay : ∀ b, w3.heap.size ≤ b ∧ b < wr.heap.size → NewB w w5 b ∧ ∀ ob, wr.heap[b]? = some ob → w5.heap[b]? = some ob := fun b hb => ⟨⟨by omega, by omega⟩, fun ob hob => by rw [hg5.block b hb.2 (by intro e; injection e; omega)]; exact hob⟩
        rw [hE, Tr.cells]
        refine ⟨.slice oz As.length cz, ys, rfl, ?_, trsC_mono (fun b hb => stay b ⟨hb.1, hb.2.1⟩) As ys HO.out.2.1⟩
        exact (own_rowIn (P := fun b => w3.heap.size ≤ b ∧ b < wr.heap.size) HO.out.1 (fun b hb => ⟨ownT_ge HO.out.1 hb, ownT_lt HO.out.1 hb⟩)).mono (fun b hb => stay b hb)
      · exact hW.grown hg5 (by omega) (by intro k hk; cases hk; omega)
    | cons T Bs =>
      obtain ⟨oz, cz, rfl⟩ := ownT_form HO.out.1
      obtain ⟨r, hr⟩ : ∃ r, r = m + 1 + szs As := ⟨_, rfl⟩
      have hks : ks.length = As.length + (Bs.length + 1) := by rw [HA.out]; simp
      have hil : (As.length : Int) < (ks.length : Int) := by omega
      obtain ⟨gu, hou, cpar⟩ : ∃ gu, ou = some ⟨gu, 0, none⟩ ∧ wr.cell? ⟨gu, As.length, none⟩ = some (.int .i64 (r : Int)) := by
        have h1 := own_heap (w' := wr) HU.out (fun b hb => by
          have h2 : w2.heap.size ≤ b ∧ b < w3.heap.size := by
            rcases HU.out.2 with ⟨h, _⟩ | ⟨g2, c2, cu2, h, hh1, hh2, _⟩
            · rw [h] at hb; cases hb
            · rw [h] at hb
              injection hb with hb
              subst hb
              exact ⟨hh1, (Array.getElem?_eq_some_iff.1 hh2).1⟩
          exact HO.out.2.2 b h2.2 (by omega))
        rcases h1.2 with ⟨_, h⟩ | ⟨g2, c2, cu2, h, _⟩
        · omega
        · injection h with h _ _
          refine ⟨g2, h, ?_⟩
          subst h
          have h3 := own_cell h1 As.length (by rw [natI_len, rootsAt_len]; omega)
          rw [natI_get', HA.out, rootsAt_get As Bs T (m + 1), ← hr] at h3
          exact h3
      subst hou
      have HR := hideT' hr
      have hrn : r < 300 + 1 := by have := len_szs As; have h1 : szs ks = szs As + szs (T :: Bs) := by rw [HA.out, szs_app']
                                   have := HLN.out; have := HMM.out.1; have := HMM.out.2; omega
      have hl2 : l = (pre ++ [⟨k, t, up⟩] ++ flats As (m + 1) (m : Int)) ++ T.flat r (m : Int) ++ (flats Bs (r + T.sz) (m : Int) ++ post) := by
        rw [HL.out, Tr.flat, HA.out, flats_app, flats, ← hr]; simp
      have hlen2 : (pre ++ [(⟨k, t, up⟩ : Dm)] ++ flats As (m + 1) (m : Int)).length = r := by
        rw [List.length_append, List.length_append, flats_sz, ← HMM.out.2, hr]; rfl
      have hszT : szs ks = szs As + (T.sz + szs Bs) := by rw [HA.out, szs_app', szs]
      have call := HIH.out T.sz (by have := HTS.out; rw [Tr.sz] at this; omega) T (Nat.le_refl _) (pre ++ [⟨k, t, up⟩] ++ flats As (m + 1) (m : Int)) (flats Bs (r + T.sz) (m : Int) ++ post) (m : Int) (.slice (some ⟨g, 0, none⟩) n cap)
      have HCALL : Hid (∀ w', NodeAt w' (.slice (some ⟨g, 0, none⟩) n cap) l → Calls Tryz.prog 12 #[.slice (some ⟨g, 0, none⟩) n cap, .int .i64 (r : Int)] w' fun e w'' => TreeAns w' T e w'') := by
        intro w' hN'
        have := call w' l (by rw [hlen2]; exact hl2) hN' (by have := HMM.out.1; omega) (by
          rw [hlen2]
          intro d hd
          rcases List.mem_append.1 hd with hd | hd
          · have := flats_up Bs (r + T.sz) (m : Int) d hd
            omega
          · have h1 := HPO.out d hd
            rw [Tr.sz] at h1
            omega)
        rw [hlen2] at this
        exact this
      clear hr hks call hl2 hlen2 hszT
      have hNW : ∀ w', Below w.heap.size w w' → NodeAt w' (.slice (some ⟨g, 0, none⟩) n cap) l := fun w' hB => by rw [HMM.out.1]; exact HNo.out.below hB (Nat.le_refl _)
      have HNW := hideT' hNW
      clear hNW
      go_wp2_with fail
      refine late_begin [8] (fun w' => RowAt w' (w.heap.size + 1) 29 (fmC k t (.slice oz As.length cz))) (by kernel_rfl) ?_
      have hS : RowAt wr.drew (w.heap.size + 1) 29 (fmC k t (.slice oz As.length cz)) := hT
      refine late_val 0 (some 27) rfl rfl (by kernel_rfl) (by kernel_rfl) (by kernel_rfl) [1, 6, 8] (by kernel_rfl) noPanic_put rfl (.pointer (some ⟨w.heap.size + 1, 2, none⟩)) (fun _ _ => by go_simp) hS ?_
      simp only [Act.put, List.setIfInBounds_toArray, List.set_cons_zero, List.set_cons_succ]
      refine late_val 1 (some 28) rfl rfl (by kernel_rfl) (by kernel_rfl) (by kernel_rfl) [6, 8] (by kernel_rfl) noPanic_put rfl (.slice oz As.length cz) (fun w' h => by have c : w'.cell? ⟨w.heap.size + 1, 2, none⟩ = some (.slice oz As.length cz) := (by rw [cell_of_row w' _ _ _ _ _ h]; rfl); go_simp) hS ?_
      simp only [Act.put, List.setIfInBounds_toArray, List.set_cons_zero, List.set_cons_succ]
      refine late_val 2 (some 29) rfl rfl (by kernel_rfl) (by kernel_rfl) (by kernel_rfl) [4, 5, 6, 8] (by kernel_rfl) noPanic_put rfl (.slice (some ⟨g, 0, none⟩) n cap) (fun _ _ => by go_simp) hS ?_
      simp only [Act.put, List.setIfInBounds_toArray, List.set_cons_zero, List.set_cons_succ]
      refine late_val 3 (some 30) rfl rfl (by kernel_rfl) (by kernel_rfl) (by kernel_rfl) [4, 5, 6, 8] (by kernel_rfl) noPanic_put rfl (.int .i64 (r : Int)) (fun _ _ => by go_simp) hS ?_
      simp only [Act.put, List.setIfInBounds_toArray, List.set_cons_zero, List.set_cons_succ]
      refine late_call 4 (some 31) (by kernel_rfl) rfl rfl rfl 12 #[.slice (some ⟨g, 0, none⟩) n cap, .int .i64 (r : Int)] (by go_simp) _ (HCALL.out wr.drew (HNW.out _ hW.drew)) ?_
      rintro e w5 ⟨k1, t1, z1, rfl, hc1, hz1c, hW5⟩
      have hW5 : Below wr.heap.size wr w5 := ⟨hW5.os, hW5.tape, hW5.output, hW5.size, hW5.block⟩
      have hs5 := hW5.size
      have hS1 : RowAt w5 (w.heap.size + 1) 29 (fmC k t (.slice oz As.length cz)) := RowAt.below hT hW5 (RowAt.lt hT)
      refine ⟨_, rfl, .inr hS1, ?_⟩
      simp only [Act.put, List.setIfInBounds_toArray, List.set_cons_zero, List.set_cons_succ]
      have hS2 : RowAt (w5.alloc (.cells (fmC k1 t1 z1) 29)) (w.heap.size + 1) 29 (fmC k t (.slice oz As.length cz)) := RowAt.old hS1 _
      refine late_ready 5 (some 32) (by kernel_rfl) rfl rfl rfl (.slice (some ⟨w5.heap.size, 0, none⟩) 1 1) (w5.alloc (.cells (fmC k1 t1 z1) 29)) (by unfold fmC; go_simp) (.inr hS2) ?_
      simp only [Act.put, List.setIfInBounds_toArray, List.set_cons_zero, List.set_cons_succ]
      have HO5 : Hid (w5.ownsRow w3.heap.size 29 3 (.slice oz As.length cz) As.length ys ∧ trsC w5 29 (InB w3 wr (.slice oz As.length cz)) As ys) := ⟨ownT_below HO.out.1 hW5 (Nat.le_refl _), trsC_mono (fun b hb => ⟨hb, fun ob hob => by rw [hW5.block b hb.2.1]; exact hob⟩) As ys HO.out.2.1⟩
      obtain ⟨i0, hi, hzz0, hzz1, hzz2⟩ := info_parts info_t4
      refine late_one 6 (by kernel_rfl) rfl rfl fun K hK => ?_
      refine append_own3_wp _ _ _ 26 rfl w3.heap.size 29 i0 (.agg #[.int .i64 0, .string ⟨#[]⟩, .slice none 0 0]) 3 48 Tryz.underlying26 hi hzz0 hzz1 hzz2 rfl (by decide) (.slice oz As.length cz) As.length ys rfl (HO5.out.1.alloc _) ⟨w5.heap.size, 0, none⟩ 1 1 (fmL k1 t1 z1) rfl rfl (fm_cells w5 29 k1 t1 z1) (fmL_one _ _ _ hz1c) (by omega) (by unfold maxLen; omega) (by omega) (by simp; omega) ?_
      intro v6 w6 hv6 hg6 hb6
      have HNE : Hid (∀ b, Value.ownBlock (.slice oz As.length cz) = some b → w3.heap.size ≤ b ∧ b < wr.heap.size) := fun b hb => ⟨ownT_ge HO.out.1 hb, ownT_lt HO.out.1 hb⟩
      have hs6 := hg6.size
      simp only [World.size_alloc] at hs6 hb6
      have hS6 : RowAt w6 (w.heap.size + 1) 29 (fmC k t (.slice oz As.length cz)) := hS2.grown hg6 (fun e => by have := (HNE.out _ e.symm).1; omega)
      refine hK.out _ _ (.inr hS6) ?_
      simp only [Act.put, List.setIfInBounds_toArray]
      have hS := hS6
      refine late_val 7 (some 34) rfl rfl (by kernel_rfl) (by kernel_rfl) (by kernel_rfl) [8] (by kernel_rfl) noPanic_put rfl (.pointer (some ⟨w.heap.size + 1, 2, none⟩)) (fun _ _ => by go_simp) hS ?_
      simp only [Act.put]
      obtain ⟨o6, c6, rfl⟩ := ownT_form hv6
      refine late_one 8 (by kernel_rfl) rfl rfl fun K8 hK8 => ?_
      refine store_at_wp 26 _ _ rfl rfl (w.heap.size + 1) 2 (.slice o6 (As.length + 1) c6) rfl rfl one_slt rfl 29 (fmC k t (.slice oz As.length cz)) hS6 (show 2 < 3 by omega) ?_
      intro w7 hR7 hg7 hs7
      refine hK8.out _ _ (.inl ⟨8, by simp, rfl⟩) ?_
      refine late_done (by kernel_rfl) ?_ _
      refine NoPanic.normal ?_
      have hR7' : RowAt w7 (w.heap.size + 1) 29 (fmC k t (.slice o6 (As.length + 1) c6)) := hR7
      have hWsz := hW.size
      have hgx : ∀ b, b < w5.heap.size → b ≠ w.heap.size + 1 → Value.ownBlock (.slice oz As.length cz) ≠ some b → w7.heap[b]? = w5.heap[b]? := fun b hb hbt hbo => by
        rw [hg7.block b (by omega) (by intro e; injection e; omega), hg6.block b (by simp; omega) (fun e => hbo e.symm), Below.heap_alloc _ _ _ hb]
      have hown6 : ∀ b, b < w5.heap.size → Value.ownBlock (.slice oz As.length cz) ≠ some b → Value.ownBlock (.slice o6 (As.length + 1) c6) ≠ some b := fun b hb hbo e => by
        rcases hb6 with h | h
        · exact hbo (by rw [← h]; exact e)
        · rw [h] at e
          injection e with e
          omega
      have stay : ∀ b, ((w3.heap.size ≤ b ∧ b < wr.heap.size ∧ Value.ownBlock (.slice oz As.length cz) ≠ some b) ∨ (wr.heap.size ≤ b ∧ b < w5.heap.size)) → InB w3 w7 (.slice o6 (As.length + 1) c6) b ∧ ∀ ob, w5.heap[b]? = some ob → w7.heap[b]? = some ob := fun b hb => by
        have h1 : w3.heap.size ≤ b := by omega
        have h2 : b < w5.heap.size := by omega
        have h3 : Value.ownBlock (.slice oz As.length cz) ≠ some b := by
          rcases hb with hb | hb
          · exact hb.2.2
          · intro e
            have := (HNE.out b e).2
            omega
        exact ⟨⟨h1, by omega, hown6 b h2 h3⟩, fun ob hob => by rw [hgx b h2 (by omega) h3]; exact hob⟩
      have HEND : Hid (w7.ownsRow w3.heap.size 29 3 (.slice o6 (As.length + 1) c6) (As ++ [T]).length (ys ++ fmL k1 t1 z1) ∧ trsC w7 29 (InB w3 w7 (.slice o6 (As.length + 1) c6)) (As ++ [T]) (ys ++ fmL k1 t1 z1) ∧ (∀ b, b < w3.heap.size → b ≠ w.heap.size + 1 → w7.heap[b]? = w3.heap[b]?)) := by
        refine ⟨?_, trsC_snoc As T ys _ (trsC_mono (fun b hb => stay b (.inl hb)) As ys HO5.out.2) (cells_mono (fun b hb => stay b (.inr hb)) T _ hc1), fun b hb hbt => ?_⟩
        · rw [List.length_append]
          exact ownT_grown hv6 hg7 (fun e => hown6 (w.heap.size + 1) (by omega) (fun e' => by have := (HNE.out _ e').1; omega) e.symm)
        · rw [hgx b (by omega) hbt (fun e => by have := (HNE.out _ e).1; omega), hW5.block b (by omega)]
          exact HO.out.2.2 b hb hbt
      have HA2 : Hid (ks = (As ++ [T]) ++ Bs) := by unfold Hid; rw [HA.out]; simp
      have hB7 : Below w.heap.size w w7 := (((hW.trans (hW5.mono (by omega))).alloc (by omega) _).grown hg6 (by simp; omega) (fun b hb => by have := (HNE.out b hb).1; omega)).grown hg7 (by omega) (by intro k hk; cases hk; omega)
      have hs7' : w3.heap.size ≤ w7.heap.size := by omega
      clear stay hgx hown6 HO HO5 hv6 hg6 hb6 hg7 hs7 hs6 hc1 hW5 hS1 hS2 hS6 hS hT hR7 hW
      go_wp2
      go_roundg Bs.length
      case measure => simp
      case rel => exact ⟨As ++ [T], Bs, .slice o6 (As.length + 1) c6, ys ++ fmL k1 t1 z1, rfl, HA2, by rw [List.length_append]; go_num, hR7', HEND, hs7', hB7⟩

theorem l4Tree_all : ∀ N, TreeN N := by
  intro N
  induction N using Nat.strongRecOn with
  | _ N IH => exact l4Tree_step N IH
end Go.Proofs.YtnmofolhfbldjaaGreatDoor

/-
  What l4Trees of the model answers.
-/
namespace Go.Proofs.YtnmofolhfbldjaaGreatDoor
open Go.RowKit
set_option linter.unusedVariables false

theorem node_range {w : World} {v : Value} {l : List Dm} (h : NodeAt w v l) (i : Nat) (hi : i < l.length) (g n cap : Nat) (hv : v = .slice (some ⟨g, 0, none⟩) n cap) : w.rangeAt g (i * 3) (dmL (l.getD i default)) := by
  obtain ⟨g', cap', cur, h1, h2, h3⟩ := h.cells i hi
  rw [hv] at h1
  injection h1 with e1 e2 e3
  injection e1 with e1
  injection e1 with e1
  subst e1
  obtain ⟨c0, c1, c2⟩ := h3 w h2
  intro j u hu
  match j, hu with
  | 0, hu => simp [dmL] at hu; subst hu; exact c0
  | 1, hu => simp [dmL] at hu; subst hu; exact c1
  | 2, hu => simp [dmL] at hu; subst hu; exact c2
  | j + 3, hu => simp [dmL] at hu

theorem flat_in (T : Tr) (n : Nat) (up : Int) (i : Nat) (h0 : 0 < i) (hi : i < T.sz) : (n : Int) ≤ ((T.flat n up).getD i default).u := by
  obtain ⟨k, t, ks⟩ := T
  rw [Tr.sz] at hi
  obtain ⟨j, rfl⟩ : ∃ j, i = j + 1 := ⟨i - 1, by omega⟩
  rw [Tr.flat, List.getD_cons_succ]
  have hlt : j < (flats ks (n + 1) (n : Int)).length := by rw [flats_sz]; omega
  have hmem : (flats ks (n + 1) (n : Int)).getD j default ∈ flats ks (n + 1) (n : Int) := by rw [List.getD, List.getElem?_eq_getElem hlt]; exact List.getElem_mem hlt
  have := flats_up ks (n + 1) n _ hmem
  omega

/-- Trees of the model in new memory. -/
def TreesAns (w : World) (Ts : List Tr) (e : Ending) (w' : World) : Prop := ∃ z ys, e = .returned z ∧ w'.ownsRow w.heap.size 29 3 z Ts.length ys ∧ trsC w' 29 (InB w w' z) Ts ys ∧ Below w.heap.size w w'

set_option maxHeartbeats 4000000 in
set_option maxRecDepth 100000 in
theorem l4Trees_any (Ts : List Tr) (v : Value) (w : World) (hN : NodeAt w v (flats Ts 0 (-1))) (h300 : (flats Ts 0 (-1)).length ≤ 300) :
    Calls Tryz.prog 7 #[v] w fun e w' => TreesAns w Ts e w' := by
  obtain ⟨l, hl⟩ : ∃ l, l = flats Ts 0 (-1) := ⟨_, rfl⟩
  rw [← hl] at hN h300
  have hln : l.length = szs Ts := by rw [hl, flats_sz]
  obtain ⟨o, cap, rfl⟩ : ∃ o cap, v = .slice o l.length cap := by
    rcases hN with ⟨h1, rfl⟩ | ⟨g, cap, cur, h1, h2, h3⟩
    · exact ⟨none, 0, h1⟩
    · exact ⟨_, _, h1⟩
  have hz := zero_t4.1
  have hzd := zero_dm.1
  obtain ⟨n, hn⟩ : ∃ n, n = l.length := ⟨_, rfl⟩
  have HL := hideT' hl
  have HLN := hideT' (And.intro hln hn)
  have HN := hideT' hN
  rw [← hn] at h300 ⊢
  clear hl hln hN hn
  go_enter Tryz.func7, Tryz.ntmps7
  go_wp2_with fail
  go_loopg [3, 8] n (fun gg z i wr => ∃ (As Bs : List Tr) (j : Nat) (ys : List Value), gg = n - j ∧ Hid (Ts = As ++ Bs ∧ j ≤ szs As ∧ (∀ b, j ≤ b → b < szs As → du l b ≠ -1)) ∧ j ≤ n ∧ i = .int .i64 (j : Int) ∧ Hid (wr.ownsRow w.heap.size 29 3 z As.length ys ∧ trsC wr 29 (InB w wr z) As ys) ∧ Below w.heap.size w wr)
  case atStart => exact ⟨[], Ts, 0, [], rfl, ⟨rfl, by omega, fun b h1 h2 => by rw [szs] at h2; omega⟩, by omega, by go_num, ⟨⟨rfl, .inl ⟨rfl, rfl⟩⟩, by rw [trsC]⟩, Below.refl _ _⟩
  case round =>
    obtain ⟨As, Bs, j, ys, rfl, HA, hjn, rfl, HO, hW⟩ := hrel
    have hWs := hW.size
    by_cases hlt : (j : Int) < (n : Int)
    · have hj' : j < l.length := by have := HLN.out.2; omega
      have hNr := HN.out.below hW (Nat.le_refl _)
      obtain ⟨g, cap', cur, hv, hg, hcs⟩ := hNr.cells j hj'
      injection hv with hv1 hv2 hv3
      subst hv1
      have hrg := node_range hNr j hj' g _ _ rfl
      obtain ⟨d, hd⟩ : ∃ d, d = l.getD j default := ⟨_, rfl⟩
      rw [← hd] at hrg
      have HD := hideT' hd
      have F := RowAt.new wr 39 (dmC default)
      clear hcs hv2 hv3 hd hg
      have hdu : d.u = du l j := by rw [HD.out]; rfl
      have hA := HA.out
      by_cases hroot : j < szs As
      · -- inside a tree
        have hne : ¬ d.u = -1 := by rw [hdu]; exact hA.2.2 j (Nat.le_refl _) hroot
        have hnb : (d.u == -1) = false := by rw [beq_eq_false_iff_ne]; exact hne
        have HA2 : Hid (Ts = As ++ Bs ∧ j + 1 ≤ szs As ∧ (∀ b, j + 1 ≤ b → b < szs As → du l b ≠ -1)) := ⟨hA.1, by omega, fun b h1 h2 => hA.2.2 b (by omega) h2⟩
        clear hdu hA hne
        go_wp2_with (first | (refine wpList_load_mid rfl 39 _ rfl g (j * 3) rfl (dmL d) _ hrg Tryz.underlying39 rfl zero_dm.2 ?_) | (refine store_dv rfl _ _ rfl rfl wr.heap.size d rfl rfl default F ?_; intro w2 hR2 hg2 hs2; have c2 : w2.cell? ⟨wr.heap.size, 2, none⟩ = some (.int .i64 d.u) := (by rw [cell_of_row w2 _ _ _ _ _ hR2]; rfl)))
        have hs2' : w2.heap.size = wr.heap.size + 1 := by rw [hs2]; simp
        have hW2 : Below w.heap.size w w2 := (hW.alloc (by omega) _).grown hg2 (by simp; omega) (by intro k hk; cases hk; omega)
        have HO2 : Hid (w2.ownsRow w.heap.size 29 3 u3 As.length ys ∧ trsC w2 29 (InB w w2 u3) As ys) := by
          refine ⟨ownT_grown (World.ownsRow.alloc HO.out.1 _) hg2 (fun e => ?_), trsC_mono (fun b hb => ⟨⟨hb.1, by have := hb.2.1; omega, hb.2.2⟩, fun ob hob => ?_⟩) As ys HO.out.2⟩
          · have := ownT_lt HO.out.1 e.symm
            omega
          · rw [hg2.block b (by have := hb.2.1; simp; omega) (by intro e; injection e; have := hb.2.1; omega), Below.heap_alloc _ _ _ hb.2.1]; exact hob
        clear HO hW hg2 hs2 hR2 c2 F hrg
        go_roundg (n - (j + 1))
        case measure => omega
        case rel => exact ⟨As, Bs, j + 1, ys, rfl, HA2, by omega, by go_num, HO2, hW2⟩
      · have hje : j = szs As := by omega
        cases hB : Bs with
        | nil =>
          exfalso
          have h1 := hA.1
          rw [hB, List.append_nil] at h1
          have h2 := HLN.out.1
          rw [h1] at h2
          omega
        | cons T Bs' =>
          subst hB
          have hlT : l = flats As 0 (-1) ++ T.flat j (-1) ++ flats Bs' (j + T.sz) (-1) := by
            rw [HL.out, hA.1, flats_app, flats, Nat.zero_add, ← hje]; simp
          have hlA : (flats As 0 (-1)).length = j := by rw [flats_sz, hje]
          have hdT : d.u = -1 := by
            rw [hdu, du_app (l := l) (A := flats As 0 (-1)) (B := T.flat j (-1) ++ flats Bs' (j + T.sz) (-1)) (by rw [hlT]; simp) j (by omega), hlA, Nat.sub_self]
            obtain ⟨k1, t1, ks1⟩ := T
            rw [Tr.flat]; rfl
          have hyb : (d.u == -1) = true := by rw [hdT]; rfl
          have hszT : szs (As ++ [T]) = j + T.sz := by rw [szs_app', szs, szs, hje]; rfl
          have hT1 : 1 ≤ T.sz := by obtain ⟨k1, t1, ks1⟩ := T; rw [Tr.sz]; omega
          have HA2 : Hid (Ts = (As ++ [T]) ++ Bs' ∧ j + 1 ≤ szs (As ++ [T]) ∧ (∀ b, j + 1 ≤ b → b < szs (As ++ [T]) → du l b ≠ -1)) := by
            refine ⟨by rw [hA.1]; simp, by omega, fun b h1 h2 => ?_⟩
            rw [du_app (l := l) (A := flats As 0 (-1)) (B := T.flat j (-1) ++ flats Bs' (j + T.sz) (-1)) (by rw [hlT]; simp) b (by omega), hlA, List.getD, List.getElem?_append_left (by rw [flat_sz]; omega)]
            have := flat_in T j (-1) (b - j) (by omega) (by omega)
            rw [List.getD] at this
            omega
          have hAl : As.length ≤ 300 := by have := len_szs As; omega
          have call := l4Tree_all T.sz T (Nat.le_refl _) (flats As 0 (-1)) (flats Bs' (j + T.sz) (-1)) (-1) (.slice (some ⟨g, 0, none⟩) n cap)
          have HCALL : Hid (∀ w', NodeAt w' (.slice (some ⟨g, 0, none⟩) n cap) l → Calls Tryz.prog 12 #[.slice (some ⟨g, 0, none⟩) n cap, .int .i64 (j : Int)] w' fun e w'' => TreeAns w' T e w'') := by
            intro w' hN'
            have := call w' l (by rw [hlA]; exact hlT) hN' (by have := HLN.out.2; omega) (by
              rw [hlA]
              intro d' hd'
              have := flats_up Bs' (j + T.sz) (-1) d' hd'
              omega)
            rw [hlA] at this
            exact this
          have HNW : Hid (∀ w', Below w.heap.size w w' → NodeAt w' (.slice (some ⟨g, 0, none⟩) n cap) l) := fun w' hB => by rw [HLN.out.2]; exact HN.out.below hB (Nat.le_refl _)
          obtain ⟨i0, hi, hzz0, hzz1, hzz2⟩ := info_parts info_t4
          clear hdu hA call hlT hlA hdT hszT hT1 hje hroot
          go_wp2_with (first | (refine wpList_load_mid rfl 39 _ rfl g (j * 3) rfl (dmL d) _ hrg Tryz.underlying39 rfl zero_dm.2 ?_) | (refine store_dv rfl _ _ rfl rfl wr.heap.size d rfl rfl default F ?_; intro w2 hR2 hg2 hs2; have c2 : w2.cell? ⟨wr.heap.size, 2, none⟩ = some (.int .i64 d.u) := (by rw [cell_of_row w2 _ _ _ _ _ hR2]; rfl)))
          have hs2' : w2.heap.size = wr.heap.size + 1 := by rw [hs2]; simp
          have hW2 : Below w.heap.size w w2 := (hW.alloc (by omega) _).grown hg2 (by simp; omega) (by intro k hk; cases hk; omega)
          have HO2 : Hid (w2.ownsRow w.heap.size 29 3 u3 As.length ys ∧ trsC w2 29 (InB w w2 u3) As ys) := by
            refine ⟨ownT_grown (World.ownsRow.alloc HO.out.1 _) hg2 (fun e => ?_), trsC_mono (fun b hb => ⟨⟨hb.1, by have := hb.2.1; omega, hb.2.2⟩, fun ob hob => ?_⟩) As ys HO.out.2⟩
            · have := ownT_lt HO.out.1 e.symm
              omega
            · rw [hg2.block b (by have := hb.2.1; simp; omega) (by intro e; injection e; have := hb.2.1; omega), Below.heap_alloc _ _ _ hb.2.1]; exact hob
          have hWs2 := hW2.size
          clear HO hW hg2 hs2 hR2 c2 F hrg
          refine (HCALL.out w2 (HNW.out w2 hW2)).mono ?_
          rintro e w5 ⟨k1, t1, z1, rfl, hc1, hz1c, hW5⟩
          have hs5 := hW5.size
          have HO5 : Hid (w5.ownsRow w.heap.size 29 3 u3 As.length ys ∧ trsC w5 29 (InB w w2 u3) As ys) := ⟨ownT_below HO2.out.1 hW5 (Nat.le_refl _), trsC_mono (fun b hb => ⟨hb, fun ob hob => by rw [hW5.block b hb.2.1]; exact hob⟩) As ys HO2.out.2⟩
          have HNE : Hid (∀ b, u3.ownBlock = some b → w.heap.size ≤ b ∧ b < w2.heap.size) := fun b hb => ⟨ownT_ge HO2.out.1 hb, ownT_lt HO2.out.1 hb⟩
          have HC1 := hideT' hc1
          have HZ1 := hideT' hz1c
          have HW5 := hideT' hW5
          clear hc1 hz1c hW5 HO2
          unfold fmC
          go_wp2_with (at_builtin; refine append_own3 _ rfl _ _ 26 rfl w.heap.size 29 i0 (.agg #[.int .i64 0, .string ⟨#[]⟩, .slice none 0 0]) 3 48 Tryz.underlying26 hi hzz0 hzz1 hzz2 rfl (by decide) u3 As.length ys rfl (HO5.out.1.alloc _) ⟨w5.heap.size, 0, none⟩ 1 1 (fmL k1 t1 z1) rfl rfl (fm_cells w5 29 k1 t1 z1) (fmL_one _ _ _ HZ1.out) (by omega) (by unfold maxLen; omega) (by omega) (by simp; omega) ?_; intro v6 w6 hv6 hg6 hb6)
          have hs6 := hg6.size
          simp only [World.size_alloc] at hs6 hb6
          have stay : ∀ b, ((w.heap.size ≤ b ∧ b < w2.heap.size ∧ u3.ownBlock ≠ some b) ∨ (w2.heap.size ≤ b ∧ b < w5.heap.size)) → InB w w6 v6 b ∧ ∀ ob, w5.heap[b]? = some ob → w6.heap[b]? = some ob := fun b hb => by
            have h1 : w.heap.size ≤ b := by omega
            have h2 : b < w5.heap.size := by omega
            have h3 : u3.ownBlock ≠ some b := by
              rcases hb with hb | hb
              · exact hb.2.2
              · intro e
                have := (HNE.out b e).2
                omega
            refine ⟨⟨h1, by omega, fun e => ?_⟩, fun ob hob => by rw [hg6.block b (by simp; omega) (fun e => h3 e.symm), Below.heap_alloc _ _ _ h2]; exact hob⟩
            rcases hb6 with h | h
            · exact h3 (by rw [← h]; exact e)
            · rw [h] at e
              injection e with e
              omega
          have HEND : Hid (w6.ownsRow w.heap.size 29 3 v6 (As ++ [T]).length (ys ++ fmL k1 t1 z1) ∧ trsC w6 29 (InB w w6 v6) (As ++ [T]) (ys ++ fmL k1 t1 z1)) :=
            ⟨by rw [List.length_append]; exact hv6, trsC_snoc As T ys _ (trsC_mono (fun b hb => stay b (.inl hb)) As ys HO5.out.2) (cells_mono (fun b hb => stay b (.inr hb)) T _ HC1.out)⟩
          have hB6 : Below w.heap.size w w6 := ((hW2.trans (HW5.out.mono (by omega))).alloc (by omega) _).grown hg6 (by simp; omega) (fun b hb => (HNE.out b hb).1)
          clear stay HO5 hv6 hg6 hb6 hs6 HC1 HW5
          go_roundg (n - (j + 1))
          case measure => omega
          case rel => exact ⟨As ++ [T], Bs', j + 1, ys ++ fmL k1 t1 z1, rfl, HA2, by omega, by go_num, HEND, hB6⟩
    · have hA := HA.out
      have hE : Hid (Ts = As) := by
        unfold Hid
        cases hB : Bs with
        | nil => rw [hA.1, hB, List.append_nil]
        | cons T Bs' =>
          exfalso
          have h1 := hA.1
          have h2 := HLN.out.1
          have h3 := HLN.out.2
          rw [h1, hB, szs_app', szs] at h2
          obtain ⟨k1, t1, ks1⟩ := T
          rw [Tr.sz] at h2
          omega
      have hFIN : Hid (∀ z, wr.ownsRow w.heap.size 29 3 z As.length ys → trsC wr 29 (InB w wr z) As ys → TreesAns w Ts (.returned z) wr) := fun z h1 h2 => by rw [hE.out]; exact ⟨z, ys, rfl, h1, h2, hW⟩
      clear hA
      go_wp2
      go_ret
      exact hFIN.out _ HO.out.1 HO.out.2
end Go.Proofs.YtnmofolhfbldjaaGreatDoor

/-
  What partsOf and formsOf of impl answer: the trees of nodes, as forms.
-/
namespace Go.Proofs.YtnmofolhfbldjaaGreatDoor
open Go.RowKit
set_option linter.unusedVariables false

theorem info_fm : (Tryz.prog.info? 58).map (fun i => (i.zero, i.size, i.bytes)) = some (some (.agg #[.int .i64 0, .string ⟨#[]⟩, .slice none 0 0]), 3, 48) := by kernel_rfl
theorem zero_fm : (∀ w, (zeroValue 58).run Tryz.prog w = .ok (.agg #[.int .i64 0, .string ⟨#[]⟩, .slice none 0 0]) w) ∧ (Tryz.prog.info? 58).map (·.size) = some 3 := zero_of_info (by kernel_rfl)
theorem one_slf : (Tryz.prog.info? 31).map (·.size) = some 1 := by kernel_rfl

/-- The one operation that may come up: a form is written whole. -/
theorem held_store_fm {ops : Array Oper} {Q : Exit → Act → World → Prop} {md : Region.Mode} {S : World → Prop} {o : Oper} {fuel : Nat} {listed : Array Bool} {a : Act} {w : World} (i : Nat) (hr : Region.ready md ops listed = [i]) (hi : ops[i]? = some o) (hw : Region.wanted o (yielded ops a.tmps) = true) (x y : Operand) (ho : o.op = .store 58 x y) (hd : o.dst = none)
    (b : Nat) (k : Int) (t : ByteArray) (z : Value) (hz : z.oneCell' = true) (hx : a.eval x = .pointer (some ⟨b, 0, none⟩)) (hy : a.eval y = .agg (fmC k t z)) (c0 : Array Value) (h0 : c0.size = 3) (hN : RowAt w b 58 c0)
    (h : ∀ w', RowAt w' b 58 (fmC k t z) → w.grownBy w' (some b) → w'.heap.size = w.heap.size → S w' ∧ wpAnyH Tryz.prog md ops Q S fuel (listed.setIfInBounds i true) a w') : wpAnyH Tryz.prog md ops Q S (fuel + 1) listed a w := by
  refine wpAnyH_ready hr (by simp) (AllReadyH.cons hi (fun K hK => ?_) AllReadyH.nil)
  rw [if_pos hw]
  refine wp_store_row 58 x y ho b (fmC k t z) hx hy 58 c0 hN (by rw [zero_fm.2]; rfl) (by rw [h0]; rfl) (fmC_one _ _ _ hz) ?_
  rw [hd]
  have := h _ (setRow_heap w b _ _ _ _ hN) ⟨rfl, rfl, rfl, by simp, fun k _ hne => setRow_other w b k _ (by intro e; exact hne (by rw [e]))⟩ (by simp)
  exact hK.out _ _ this.1 (fun _ => this.2)

/-- Trees as a new row of forms, and the number of the node behind them. -/
def FormsAns (w : World) (n : Nat) (Ts : List Tr) (e : Ending) (w' : World) : Prop := ∃ z ys, e = .returned (.tuple #[z, .int .i64 ((n + szs Ts : Nat) : Int)]) ∧ w'.ownsRow w.heap.size 58 3 z Ts.length ys ∧ trsC w' 58 (InB w w' z) Ts ys ∧ Below w.heap.size w w'

/-- What partsOf should answer for trees of at most N nodes. -/
def FormsN (N : Nat) : Prop := ∀ (Ts : List Tr), szs Ts ≤ N → ∀ (pre post : List Dm) (up : Int) (v : Value) (w : World) (l : List Dm), l = pre ++ flats Ts pre.length up ++ post → NodeAt w v l → l.length ≤ 300 → -1 ≤ up → up < (pre.length : Int) → (∀ d, post.head? = some d → d.u < up) →
  Calls Tryz.prog 31 #[v, .int .i64 (pre.length : Int), .int .i64 up] w fun e w' => FormsAns w pre.length Ts e w'

theorem NodeAt.form {w : World} {v : Value} {l : List Dm} (h : NodeAt w v l) : ∃ o cap, v = .slice o l.length cap := by
  rcases h with ⟨h1, rfl⟩ | ⟨g, cap, cur, h1, h2, h3⟩
  · exact ⟨none, 0, h1⟩
  · exact ⟨_, _, h1⟩

theorem szs_app : ∀ (As Bs : List Tr), szs (As ++ Bs) = szs As + szs Bs
  | [], Bs => by rw [szs]; simp
  | A :: As, Bs => by
    show szs (A :: (As ++ Bs)) = _
    rw [szs, szs, szs_app As Bs]; omega

/-- Where the loop of partsOf stands, and which node is there. -/
theorem parts_at {Ts As Bs : List Tr} {pre post l : List Dm} {up : Int} (hl : l = pre ++ flats Ts pre.length up ++ post) (hT : Ts = As ++ Bs) :
    l = (pre ++ flats As pre.length up) ++ flats Bs (pre.length + szs As) up ++ post ∧ (pre ++ flats As pre.length up).length = pre.length + szs As := by
  subst hT
  refine ⟨?_, by rw [List.length_append, flats_sz]⟩
  rw [hl, flats_app]; simp

set_option maxHeartbeats 4000000 in
set_option maxRecDepth 100000 in
theorem partsOf_step (N : Nat) (IH : ∀ M, M < N → FormsN M) : FormsN N := by
  intro Ts hTs pre post up v w l hl hNode h300 hup hup2 hpost
  obtain ⟨o, cap, rfl⟩ := hNode.form
  have hz := zero_fm.1
  have HIH := hideT' IH
  have HL := hideT' hl
  have HN := hideT' hNode
  have HP := hideT' hpost
  have HTS := hideT' hTs
  obtain ⟨n, hn⟩ : ∃ n, n = l.length := ⟨_, rfl⟩
  rw [← hn] at h300 ⊢
  have HLN := hideT' hn
  clear IH hl hNode hpost hTs hn
  go_enter Tryz.func31, Tryz.ntmps31
  go_wp2
  go_loopg [1, 8] Ts.length (fun g a z wr => ∃ (As Bs : List Tr) (ys : List Value), g = Bs.length ∧ Hid (Ts = As ++ Bs) ∧ a = .int .i64 ((pre.length + szs As : Nat) : Int) ∧ Hid (wr.ownsRow w.heap.size 58 3 z As.length ys ∧ trsC wr 58 (InB w wr z) As ys) ∧ Below w.heap.size w wr)
  case atStart => exact ⟨[], Ts, [], rfl, rfl, by rw [szs]; rfl, ⟨⟨rfl, .inl ⟨rfl, rfl⟩⟩, by rw [trsC]⟩, Below.refl _ _⟩
  case round =>
    obtain ⟨As, Bs, ys, rfl, HA, rfl, HO, hW⟩ := hrel
    obtain ⟨m, hm⟩ : ∃ m, m = pre.length + szs As := ⟨_, rfl⟩
    rw [← hm]
    have HM := hideT' hm
    have hsW := hW.size
    have hmup : up < (m : Int) := by omega
    clear hm
    cases Bs with
    | nil =>
      have HE : Hid (Ts = As) := by unfold Hid; have := HA.out; simpa using this
      have hpa := parts_at HL.out HA.out
      have hFIN : Hid (∀ (z : Value) (w' : World), w'.ownsRow w.heap.size 58 3 z As.length ys → trsC w' 58 (InB w w' z) As ys → Below w.heap.size w w' → FormsAns w pre.length Ts (.returned (.tuple #[z, .int .i64 (m : Int)])) w') := by
        intro z w' h1 h2 h3
        rw [HE.out]
        exact ⟨z, ys, by rw [HM.out], h1, h2, h3⟩
      by_cases hmn : (m : Int) < (n : Int)
      · have hlen := hpa.2
        have hm' : m < l.length := by have := HLN.out; omega
        obtain ⟨g, cap', cur, hv, hg, hcs⟩ := (HN.out.below hW (Nat.le_refl _)).cells m hm'
        obtain ⟨c0, c1, c2⟩ := hcs wr hg
        have hd : (l.getD m default).u < up := by
          have h1 := hpa.1
          rw [flats, List.append_nil] at h1
          have h2 := HM.out
          cases hp : post with
          | nil => rw [hp, List.append_nil] at h1; rw [h1] at hm'; omega
          | cons d post' =>
            have h3 : l.getD m default = d := by
              rw [h1, hp, List.getD, List.getElem?_append_right (by omega)]
              have : m - (pre ++ flats As pre.length up).length = 0 := by omega
              rw [this]; rfl
            rw [h3]
            exact HP.out d (by rw [hp]; rfl)
        obtain ⟨u, hu⟩ : ∃ u, u = (l.getD m default).u := ⟨_, rfl⟩
        rw [← hu] at c2 hd
        have hne : (u == up) = false := by rw [beq_eq_false_iff_ne]; omega
        injection hv with hv1 hv2 hv3
        subst hv1
        clear hu c0 c1 hpa hv2 hv3 hlen hm' hcs hg
        go_wp2
        go_ret2
        exact hFIN.out _ _ HO.out.1 HO.out.2 hW
      · clear hpa
        go_wp2
        go_ret2
        exact hFIN.out _ _ HO.out.1 HO.out.2 hW
    | cons T Bs =>
      obtain ⟨k, t, ks⟩ := T
      have hpa := parts_at HL.out HA.out
      have hsz : szs Ts = szs As + (1 + szs ks + szs Bs) := by rw [HA.out, szs_app, szs, Tr.sz]
      have hln : l.length = pre.length + szs Ts + post.length := by rw [HL.out, List.length_append, List.length_append, flats_sz]
      have hm' : m < l.length := by have := HM.out; omega
      obtain ⟨g, cap', cur, hv, hg, hcs⟩ := (HN.out.below hW (Nat.le_refl _)).cells m hm'
      have hl3 : l = (pre ++ flats As pre.length up ++ [⟨k, t, up⟩]) ++ flats ks (m + 1) m ++ (flats Bs (m + (1 + szs ks)) up ++ post) := by
        have h1 := hpa.1
        rw [flats, Tr.flat, ← HM.out, Tr.sz] at h1
        rw [h1]; simp
      have hlen3 : (pre ++ flats As pre.length up ++ [(⟨k, t, up⟩ : Dm)]).length = m + 1 := by
        rw [List.length_append, hpa.2, HM.out]; rfl
      have hd : l.getD m default = ⟨k, t, up⟩ := by
        have h1 := hpa.1
        rw [flats, Tr.flat, ← HM.out] at h1
        have h2 := hpa.2
        rw [← HM.out] at h2
        rw [h1, List.getD, List.append_assoc, List.getElem?_append_right (by omega), h2]
        simp
      rw [hd] at hcs
      obtain ⟨c0, c1, c2⟩ := hcs wr hg
      have HCS := hideT' hcs
      have hmn : (m : Int) < (n : Int) := by have := HLN.out; omega
      have he : (up == up) = true := by simp
      have H3 := hideT' (And.intro hl3 hlen3)
      have HSZ := hideT' hsz
      injection hv with hv1 hv2 hv3
      subst hv1
      have hlt : g < wr.heap.size := (Array.getElem?_eq_some_iff.1 hg).1
      have HG := hideT' hg
      clear hpa hsz hln hm' hl3 hlen3 hd hv2 hv3 hcs hg
      go_wp2
      refine held_begin (fun w' => w'.heap[g]? = some (.cells cur 39 (0, 0))) (by kernel_rfl) ?_
      clear c0 c1 c2
      have hS : wr.drew.heap[g]? = some (.cells cur 39 (0, 0)) := HG.out
      refine held_valS 0 (some 23) rfl rfl (by kernel_rfl) (by kernel_rfl) (by kernel_rfl) noPanic_put rfl (.slice (some ⟨g, 0, none⟩) n cap) (fun _ _ => by go_simp) hS ?_
      simp only [Act.put, List.setIfInBounds_toArray, List.set_cons_zero, List.set_cons_succ]
      refine held_valS 1 (some 24) rfl rfl (by kernel_rfl) (by kernel_rfl) (by kernel_rfl) noPanic_put rfl (.int .i64 (m : Int)) (fun _ _ => by go_simp) hS ?_
      simp only [Act.put, List.setIfInBounds_toArray, List.set_cons_zero, List.set_cons_succ]
      refine held_valS 2 (some 25) rfl rfl (by kernel_rfl) (by kernel_rfl) (by kernel_rfl) noPanic_put rfl (.pointer (some ⟨g, m * 3, none⟩)) (fun _ _ => by go_simp) hS ?_
      simp only [Act.put, List.setIfInBounds_toArray, List.set_cons_zero, List.set_cons_succ]
      refine held_valS 3 (some 26) rfl rfl (by kernel_rfl) (by kernel_rfl) (by kernel_rfl) noPanic_put rfl (.pointer (some ⟨g, m * 3, none⟩)) (fun _ _ => by go_simp) hS ?_
      simp only [Act.put, List.setIfInBounds_toArray, List.set_cons_zero, List.set_cons_succ]
      refine held_valS 4 (some 27) rfl rfl (by kernel_rfl) (by kernel_rfl) (by kernel_rfl) noPanic_put rfl (.int .i64 k) (fun w' h => by have c := (HCS.out w' h).1; go_simp) hS ?_
      simp only [Act.put, List.setIfInBounds_toArray, List.set_cons_zero, List.set_cons_succ]
      refine held_valS 5 (some 28) rfl rfl (by kernel_rfl) (by kernel_rfl) (by kernel_rfl) noPanic_put rfl (.slice (some ⟨g, 0, none⟩) n cap) (fun _ _ => by go_simp) hS ?_
      simp only [Act.put, List.setIfInBounds_toArray, List.set_cons_zero, List.set_cons_succ]
      refine held_valS 6 (some 29) rfl rfl (by kernel_rfl) (by kernel_rfl) (by kernel_rfl) noPanic_put rfl (.int .i64 (m : Int)) (fun _ _ => by go_simp) hS ?_
      simp only [Act.put, List.setIfInBounds_toArray, List.set_cons_zero, List.set_cons_succ]
      refine held_valS 7 (some 30) rfl rfl (by kernel_rfl) (by kernel_rfl) (by kernel_rfl) noPanic_put rfl (.pointer (some ⟨g, m * 3, none⟩)) (fun _ _ => by go_simp) hS ?_
      simp only [Act.put, List.setIfInBounds_toArray, List.set_cons_zero, List.set_cons_succ]
      refine held_valS 8 (some 31) rfl rfl (by kernel_rfl) (by kernel_rfl) (by kernel_rfl) noPanic_put rfl (.pointer (some ⟨g, m * 3 + 1, none⟩)) (fun _ _ => by go_simp) hS ?_
      simp only [Act.put, List.setIfInBounds_toArray, List.set_cons_zero, List.set_cons_succ]
      refine held_valS 9 (some 32) rfl rfl (by kernel_rfl) (by kernel_rfl) (by kernel_rfl) noPanic_put rfl (.string t) (fun w' h => by have c := (HCS.out w' h).2.1; go_simp) hS ?_
      simp only [Act.put, List.setIfInBounds_toArray, List.set_cons_zero, List.set_cons_succ]
      refine held_valS 10 (some 33) rfl rfl (by kernel_rfl) (by kernel_rfl) (by kernel_rfl) noPanic_put rfl (.agg (fmC k t (.slice none 0 0))) (fun _ _ => by unfold fmC; go_simp) hS ?_
      simp only [Act.put, List.setIfInBounds_toArray, List.set_cons_zero, List.set_cons_succ]
      refine wpAnyH_ready (rs := [11]) (by kernel_rfl) (by simp) ?_
      have hS5 : (wr.drew.alloc (.cells #[.int .i64 0, .string ⟨#[]⟩, .slice none 0 0] 58)).heap[g]? = some (.cells cur 39 (0, 0)) := by rw [Below.heap_alloc wr.drew _ _ hlt]; exact HG.out
      refine ready_val 11 (some 9) rfl rfl rfl (.pointer (some ⟨wr.heap.size, 0, none⟩)) (wr.drew.alloc (.cells #[.int .i64 0, .string ⟨#[]⟩, .slice none 0 0] 58)) (by go_simp) hS5 ?_ AllReadyH.nil
      simp only [Act.put, List.setIfInBounds_toArray, List.set_cons_zero, List.set_cons_succ]
      refine held_store_fm 12 (by kernel_rfl) rfl rfl (.tmp 9) (.tmp 33) rfl rfl wr.heap.size k t (.slice none 0 0) rfl rfl rfl #[.int .i64 0, .string ⟨#[]⟩, .slice none 0 0] rfl (RowAt.new wr.drew _ _) ?_
      intro w2 hR2 hg2 hs2
      have hS6 : w2.heap[g]? = some (.cells cur 39 (0, 0)) := by rw [hg2.block g (by simp; omega) (by intro e; injection e; omega)]; exact hS5
      refine ⟨hS6, ?_⟩
      refine wpAnyH_done (by kernel_rfl) ?_ _
      refine NoPanic.normal ?_
      have hs2' : w2.heap.size = wr.heap.size + 1 := by rw [hs2]; simp
      have hW2 : Below w.heap.size w w2 := (hW.drew.alloc (by simp; omega) _).grown hg2 (by simp; omega) (by intro k hk; cases hk; omega)
      have HO2 : Hid (w2.ownsRow w.heap.size 58 3 u8 As.length ys ∧ trsC w2 58 (InB w wr u8) As ys) := by
        refine ⟨ownT_grown (World.ownsRow.alloc (w := wr.drew) HO.out.1 _) hg2 (fun e => ?_), trsC_mono (fun b hb => ⟨hb, fun ob hob => ?_⟩) As ys HO.out.2⟩
        · have := ownT_lt HO.out.1 e.symm
          omega
        · rw [hg2.block b (by have := hb.2.1; simp; omega) (by intro e; injection e; have := hb.2.1; omega), Below.heap_alloc wr.drew _ _ hb.2.1]; exact hob
      have hN2 : Hid (NodeAt w2 (.slice (some ⟨g, 0, none⟩) n cap) l) := by
        unfold Hid
        rw [HLN.out]
        exact HN.out.below hW2 (Nat.le_refl _)
      have hAl : As.length ≤ 300 := by have := len_szs As; have := HSZ.out; have := HM.out; have := HLN.out; have h1 := HL.out; have : l.length = pre.length + szs Ts + post.length := by rw [h1, List.length_append, List.length_append, flats_sz]
                                       omega
      have HNE : Hid (∀ b, u8.ownBlock = some b → w.heap.size ≤ b ∧ b < wr.heap.size) := fun b hb => ⟨ownT_ge HO.out.1 hb, ownT_lt HO.out.1 hb⟩
      clear hg2 hs2 hS hS5 HO HG HCS hS6
      have call := HIH.out (szs ks) (by have := HSZ.out; have := HTS.out; omega) ks (Nat.le_refl _) (pre ++ flats As pre.length up ++ [⟨k, t, up⟩]) (flats Bs (m + (1 + szs ks)) up ++ post) (m : Int) (.slice (some ⟨g, 0, none⟩) n cap) w2 l (by rw [H3.out.2]; exact H3.out.1) hN2.out (by have := HLN.out; omega) (by omega) (by rw [H3.out.2]; omega) (by
        intro d hd
        cases Bs with
        | nil =>
          rw [flats, List.nil_append] at hd
          have := HP.out d hd
          omega
        | cons T2 Bs2 =>
          obtain ⟨k2, t2, ks2⟩ := T2
          rw [flats, Tr.flat] at hd
          simp at hd
          subst hd
          exact hmup)
      rw [show (((pre ++ flats As pre.length up ++ [(⟨k, t, up⟩ : Dm)]).length : Nat) : Int) = (m : Int) + 1 from by rw [H3.out.2]; rfl] at call
      have HCALL := hideT' call
      clear call
      go_wp2_with fail
      refine HCALL.out.mono ?_
      rintro e w3 ⟨z3, ys3, rfl, ho3, ht3, hW3⟩
      obtain ⟨o3, cap3, rfl⟩ := ownT_form ho3
      obtain ⟨m2, hm2⟩ : ∃ m2, m2 = (pre ++ flats As pre.length up ++ [(⟨k, t, up⟩ : Dm)]).length + szs ks := ⟨_, rfl⟩
      rw [← hm2]
      have HM2 : Hid (m2 = m + 1 + szs ks) := by unfold Hid; rw [hm2, H3.out.2]
      have hs3 := hW3.size
      have hR3 : RowAt w3 wr.heap.size 58 (fmC k t (.slice none 0 0)) := hR2.below hW3 (by omega)
      have HO3 : Hid (w3.ownsRow w.heap.size 58 3 u8 As.length ys ∧ trsC w3 58 (InB w wr u8) As ys) := ⟨ownT_below HO2.out.1 hW3 (Nat.le_refl _), trsC_mono (fun b hb => ⟨hb, fun ob hob => by rw [hW3.block b (by have := hb.2.1; omega)]; exact hob⟩) As ys HO2.out.2⟩
      have HT3 := hideT' (And.intro ho3 ht3)
      have hW3' : Below w.heap.size w w3 := hW2.trans (hW3.mono (by omega))
      clear hm2 ho3 ht3 HO2 hR2 hW3 HCALL hN2
      obtain ⟨i0, hi, hz0, hz1, hz2⟩ := info_parts info_fm
      go_wp2_with (first | (refine store_at rfl 31 _ _ rfl rfl wr.heap.size 2 (.slice o3 ks.length cap3) rfl rfl one_slf rfl 58 (fmC k t (.slice none 0 0)) hR3 (show 2 < 3 by omega) ?_; intro w4 hR4 hg4 hs4; have hR4' : RowAt w4 wr.heap.size 58 (fmC k t (.slice o3 ks.length cap3)) := hR4; have HO4 : Hid (w4.ownsRow w.heap.size 58 3 u8 As.length ys) := ownT_grown HO3.out.1 hg4 (fun e => by have := (HNE.out _ e.symm).2; omega); have HS4 := hideT' hs4; clear hs4 hR4) | (refine wpList_load_row rfl 58 _ rfl wr.heap.size rfl 58 #[.int .i64 k, .string t, .slice o3 ks.length cap3] (0, 0) _ hR4' Tryz.underlying58 rfl zero_fm.2 ?_) | (at_builtin; refine append_own3 _ rfl _ _ 31 rfl w.heap.size 58 i0 (.agg #[.int .i64 0, .string ⟨#[]⟩, .slice none 0 0]) 3 48 Tryz.underlying31 hi hz0 hz1 hz2 rfl (by decide) u8 As.length ys rfl (HO4.out.alloc _) ⟨w4.heap.size, 0, none⟩ 1 1 (fmL k t (.slice o3 ks.length cap3)) rfl rfl (fm_cells w4 58 k t (.slice o3 ks.length cap3)) (fmL_one _ _ _ rfl) (by omega) (by unfold maxLen; omega) (by omega) (by have := HS4.out; simp; omega) ?_; intro v5 w5 hv5 hg5 hb5))
      have hs4 := HS4.out
      have hs5 := hg5.size
      simp only [World.size_alloc] at hs5 hb5
      have stay : ∀ b, ((w.heap.size ≤ b ∧ b < wr.heap.size ∧ u8.ownBlock ≠ some b) ∨ (w2.heap.size ≤ b ∧ b < w3.heap.size)) → InB w w5 v5 b ∧ ∀ ob, w3.heap[b]? = some ob → w5.heap[b]? = some ob := by
        intro b hb
        have hbw : w.heap.size ≤ b := by omega
        have hbs : b < w3.heap.size := by omega
        have hbn : b ≠ wr.heap.size := by omega
        have hbo : u8.ownBlock ≠ some b := by
          rcases hb with hb | hb
          · exact hb.2.2
          · intro e
            have := (HNE.out b e).2
            omega
        refine ⟨⟨hbw, by omega, fun e => ?_⟩, fun ob hob => ?_⟩
        · rcases hb5 with h | h
          · exact hbo (by rw [← h]; exact e)
          · rw [h] at e
            injection e with e
            omega
        · rw [hg5.block b (by simp; omega) (fun e => hbo e.symm), Below.heap_alloc _ _ _ (by omega), hg4.block b hbs (by intro e; injection e; omega)]; exact hob
      have hB5 : Below w.heap.size w w5 := ((hW3'.grown hg4 (by omega) (by intro k hk; cases hk; omega)).alloc (by omega) _).grown hg5 (by simp; omega) (fun k hk => (HNE.out k hk).1)
      have HEND : Hid (w5.ownsRow w.heap.size 58 3 v5 (As ++ [Tr.mk k t ks]).length (ys ++ fmL k t (.slice o3 ks.length cap3)) ∧ trsC w5 58 (InB w w5 v5) (As ++ [Tr.mk k t ks]) (ys ++ fmL k t (.slice o3 ks.length cap3))) := by
        refine ⟨by rw [List.length_append]; exact hv5, trsC_snoc As (.mk k t ks) ys _ (trsC_mono (fun b hb => stay b (.inl hb)) As ys HO3.out.2) ?_⟩
        rw [Tr.cells]
        refine ⟨.slice o3 ks.length cap3, ys3, rfl, ?_, trsC_mono (fun b hb => stay b (.inr ⟨hb.1, hb.2.1⟩)) ks ys3 HT3.out.2⟩
        exact (own_rowIn (P := fun b => w2.heap.size ≤ b ∧ b < w3.heap.size) HT3.out.1 (fun b hb => ⟨ownT_ge HT3.out.1 hb, ownT_lt HT3.out.1 hb⟩)).mono (fun b hb => stay b (.inr hb))
      have HA2 : Hid (Ts = (As ++ [Tr.mk k t ks]) ++ Bs) := by unfold Hid; rw [HA.out]; simp
      have HM3 : Hid ((m2 : Int) = ((pre.length + szs (As ++ [Tr.mk k t ks]) : Nat) : Int)) := by
        unfold Hid
        have h1 := HM2.out
        have h2 := HM.out
        rw [szs_app, szs, szs, Tr.sz]
        omega
      clear stay HO3 HT3 hv5 hg5 hb5 hg4 hs5 hs4 HS4 hR4' HO4
      go_roundg Bs.length
      case measure => simp
      case rel => exact ⟨As ++ [Tr.mk k t ks], Bs, ys ++ fmL k t (.slice o3 ks.length cap3), rfl, HA2, by rw [HM3.out], HEND, hB5⟩

theorem partsOf_all : ∀ N, FormsN N := by
  intro N
  induction N using Nat.strongRecOn with
  | _ N IH => exact partsOf_step N IH

/-- Nodes as forms. -/
theorem formsOf_any (Ts : List Tr) (v : Value) (w : World) (hN : NodeAt w v (flats Ts 0 (-1))) (h300 : (flats Ts 0 (-1)).length ≤ 300) :
    Calls Tryz.prog 15 #[v] w fun e w' => ∃ z ys, e = .returned z ∧ w'.ownsRow w.heap.size 58 3 z Ts.length ys ∧ trsC w' 58 (InB w w' z) Ts ys ∧ Below w.heap.size w w' := by
  have HC := hideT' (partsOf_all (szs Ts) Ts (Nat.le_refl _) [] [] (-1) v w (flats Ts 0 (-1)) (by simp) hN h300 (by omega) (by simp) (fun d h => by simp at h))
  clear hN h300
  go_enter Tryz.func15, Tryz.ntmps15
  go_wp2_with fail
  refine HC.out.mono ?_
  rintro e w' ⟨z, ys, rfl, h1, h2, h3⟩
  have HR := hideT' (And.intro h1 (And.intro h2 h3))
  clear h1 h2 h3
  go_wp2
  go_ret
  exact ⟨_, ys, rfl, HR.out⟩
end Go.Proofs.YtnmofolhfbldjaaGreatDoor

/-
  impl.ReadData: it answers as the plain reader.
-/
namespace Go.Proofs.YtnmofolhfbldjaaGreatDoor
open Go.RowKit
set_option linter.unusedVariables false

/-- What ReadData answers. -/
def RdAns (s : ByteArray) (w : World) (e : Ending) (w' : World) : Prop :=
  match readP s with
  | none => ∃ c : Int, c ≠ 0 ∧ e = .returned (.tuple #[.slice none 0 0, .int .i64 c]) ∧ Below w.heap.size w w'
  | some l => ∃ v, e = .returned (.tuple #[v, .int .i64 0]) ∧ w'.ownsRow w.heap.size 39 3 v l.length (l.flatMap dmL) ∧ l.length ≤ 300 ∧ Below w.heap.size w w'
theorem RdAns.no {s : ByteArray} {w w' : World} {e : Ending} {c : Int} (h : readP s = none) (hc : c ≠ 0) (he : e = .returned (.tuple #[.slice none 0 0, .int .i64 c])) (hB : Below w.heap.size w w') : RdAns s w e w' := by unfold RdAns; rw [h]; exact ⟨c, hc, he, hB⟩
theorem RdAns.yes {s : ByteArray} {w w' : World} {e : Ending} {l : List Dm} {v : Value} (h : readP s = some l) (he : e = .returned (.tuple #[v, .int .i64 0])) (ho : w'.ownsRow w.heap.size 39 3 v l.length (l.flatMap dmL)) (hl : l.length ≤ 300) (hB : Below w.heap.size w w') : RdAns s w e w' := by unfold RdAns; rw [h]; exact ⟨v, he, ho, hl, hB⟩
theorem own_lower {w : World} {B B' z n : Nat} {T : TypeId} {v : Value} {xs : List Value} (h : w.ownsRow B T z v n xs) (hB : B' ≤ B) : w.ownsRow B' T z v n xs := by
  refine ⟨h.1, ?_⟩
  rcases h.2 with h1 | ⟨g, cap, cur, rfl, h2, h3, h4⟩
  · exact .inl h1
  · exact .inr ⟨g, cap, cur, rfl, by omega, h3, h4⟩
theorem cell_one {w : World} {b : Nat} {t : TypeId} {v : Value} (h : RowAt w b t #[v]) : w.cell? ⟨b, 0, none⟩ = some v := by rw [cell_of_row w b _ _ _ _ h]; rfl

theorem start_st (w : World) (s : ByteArray) : ISt ((((w.alloc (Obj.cells #[Value.slice none 0 0] 23)).alloc (Obj.cells #[Value.int IntKind.i64 0] 3)).alloc (Obj.cells #[Value.string s, Value.int IntKind.i64 0, Value.slice none 0 0, Value.int IntKind.i64 0] 54)).alloc (Obj.cells #[Value.pointer (some ⟨w.heap.size + 1 + 1, 0, none⟩)] 52)) (w.heap.size + 1 + 1) (w.heap.size + 1 + 1) s ((0 : Nat) : Int) [] := by
  have e2 : ((w.alloc (Obj.cells #[Value.slice none 0 0] 23)).alloc (Obj.cells #[Value.int IntKind.i64 0] 3)).heap.size = w.heap.size + 1 + 1 := by simp
  have e3 : (((w.alloc (Obj.cells #[Value.slice none 0 0] 23)).alloc (Obj.cells #[Value.int IntKind.i64 0] 3)).alloc (Obj.cells #[Value.string s, Value.int IntKind.i64 0, Value.slice none 0 0, Value.int IntKind.i64 0] 54)).heap.size = w.heap.size + 1 + 1 + 1 := by simp
  have r2 := RowAt.new ((w.alloc (Obj.cells #[Value.slice none 0 0] 23)).alloc (Obj.cells #[Value.int IntKind.i64 0] 3)) 54 #[Value.string s, Value.int IntKind.i64 0, Value.slice none 0 0, Value.int IntKind.i64 0]
  have r3 := RowAt.new (((w.alloc (Obj.cells #[Value.slice none 0 0] 23)).alloc (Obj.cells #[Value.int IntKind.i64 0] 3)).alloc (Obj.cells #[Value.string s, Value.int IntKind.i64 0, Value.slice none 0 0, Value.int IntKind.i64 0] 54)) 52 #[Value.pointer (some ⟨w.heap.size + 1 + 1, 0, none⟩)]
  rw [e2] at r2
  rw [e3] at r3
  exact ⟨Nat.le_refl _, _, RowAt.old r2 _, World.ownsRow_nil _ _ _ _, r3⟩
theorem start_rows (w : World) (o2 o3 : Obj) : RowAt ((((w.alloc (Obj.cells #[Value.slice none 0 0] 23)).alloc (Obj.cells #[Value.int IntKind.i64 0] 3)).alloc o2).alloc o3) w.heap.size 23 #[Value.slice none 0 0] ∧ RowAt ((((w.alloc (Obj.cells #[Value.slice none 0 0] 23)).alloc (Obj.cells #[Value.int IntKind.i64 0] 3)).alloc o2).alloc o3) (w.heap.size + 1) 3 #[Value.int IntKind.i64 0] ∧ Below w.heap.size w ((((w.alloc (Obj.cells #[Value.slice none 0 0] 23)).alloc (Obj.cells #[Value.int IntKind.i64 0] 3)).alloc o2).alloc o3) := by
  have e1 : (w.alloc (Obj.cells #[Value.slice none 0 0] 23)).heap.size = w.heap.size + 1 := by simp
  have r1 := RowAt.new (w.alloc (Obj.cells #[Value.slice none 0 0] 23)) 3 #[Value.int IntKind.i64 0]
  rw [e1] at r1
  refine ⟨RowAt.old (RowAt.old (RowAt.old (RowAt.new w _ _) _) _) _, RowAt.old (RowAt.old r1 _) _, ?_⟩
  exact ((((Below.refl _ _).alloc (Nat.le_refl _) _).alloc (by simp) _).alloc (by simp; omega) _).alloc (by simp; omega) _

set_option maxHeartbeats 1000000 in
theorem rd_results (N : Nat) (w : World) (x : Value) (c : Int) (t0 t1 t4 : Value) (ts : List Value) (hx : RowAt w N 23 #[x]) (hc : RowAt w (N + 1) 3 #[.int .i64 c]) :
    (results Tryz.f14 (t0 :: t1 :: Value.pointer (some ⟨N, 0, none⟩) :: Value.pointer (some ⟨N + 1, 0, none⟩) :: ts).toArray).run Tryz.prog w = .ok (.tuple #[x, .int .i64 c]) w := by
  have h0 := cell_one hx
  have h1 := cell_one hc
  simp [results, Tryz.results14, go_sem, h0, h1]

set_option maxHeartbeats 4000000 in
set_option maxRecDepth 100000 in
theorem implRead_any (s : ByteArray) (w : World) (hsz : s.size ≤ maxLen) (hT : Tab w.heap.size w) :
    Calls Tryz.prog 14 #[.string s] w fun e w' => RdAns s w e w' := by
  have hmf : ∀ (fn : Fn) (first cap : Array Value) (w : World), (Instr.makeFunc fn first cap).run Tryz.prog w = .ok (.func fn first cap) w := fun _ _ _ _ => rfl
  unfold maxLen at hsz
  by_cases hlong : (1500 : Int) < (s.size : Int)
  · have HNO : Hid (readP s = none) := by unfold Hid readP; rw [if_pos (by omega)]
    go_enter_defers Tryz.func14, Tryz.ntmps14
    go_wp2
    have e1 : (w.alloc (Obj.cells #[Value.slice none 0 0] 23)).heap.size = w.heap.size + 1 := by simp
    have r1 := RowAt.new (w.alloc (Obj.cells #[Value.slice none 0 0] 23)) 3 #[Value.int IntKind.i64 1]
    rw [e1] at r1
    refine ⟨_, rd_results w.heap.size _ _ 1 _ _ undef _ (RowAt.old (RowAt.new w _ _) _) r1, RdAns.no HNO.out (by decide) rfl ?_⟩
    exact ((Below.refl _ _).alloc (Nat.le_refl _) _).alloc (by simp) _
  · have hs : s.size ≤ 1500 := by omega
    have HT := hideT' hT
    have HRP : Hid (readP s = topF s (s.size + 1) 0 []) := by unfold Hid readP; rw [if_neg (by omega)]
    have hST := start_st w s
    obtain ⟨q0, q1, q2⟩ := start_rows w (Obj.cells #[Value.string s, Value.int IntKind.i64 0, Value.slice none 0 0, Value.int IntKind.i64 0] 54) (Obj.cells #[Value.pointer (some ⟨w.heap.size + 1 + 1, 0, none⟩)] 52)
    have HST := hideT' hST
    have HQ := hideT' (And.intro q0 (And.intro q1 q2))
    clear hT hST q0 q1 q2
    go_enter_defers Tryz.func14, Tryz.ntmps14
    go_wp2_with fail
    obtain ⟨w0, hw0⟩ : ∃ w0, w0 = (((w.alloc (Obj.cells #[Value.slice none 0 0] 23)).alloc (Obj.cells #[Value.int IntKind.i64 0] 3)).alloc (Obj.cells #[Value.string s, Value.int IntKind.i64 0, Value.slice none 0 0, Value.int IntKind.i64 0] 54)).alloc (Obj.cells #[Value.pointer (some ⟨w.heap.size + 1 + 1, 0, none⟩)] 52) := ⟨_, rfl⟩
    rw [← hw0]
    have hq := HQ.out
    have hst := HST.out
    rw [← hw0] at hq hst
    have KEEP : Hid (∀ w', Below (w.heap.size + 1 + 1) w0 w' → RowAt w' w.heap.size 23 #[Value.slice none 0 0] ∧ RowAt w' (w.heap.size + 1) 3 #[Value.int IntKind.i64 0] ∧ Below w.heap.size w w' ∧ Tab (w.heap.size + 1 + 1) w') := fun w' hb => by
      have hb' := hq.2.2.trans (hb.mono (by omega))
      exact ⟨RowAt.below hq.1 hb (by omega), RowAt.below hq.2.1 hb (by omega), hb', (HT.out.on hb').up (by omega)⟩
    clear hw0 HQ HST hq
    refine (iskip_st (w.heap.size + 1 + 1) (w.heap.size + 1 + 1) s 0 [] w0 hs (by omega) hst).mono ?_
    rintro e w1 ⟨rfl, hS1, hW1⟩
    clear hst
    go_wp2_with fail
    go_loopg [] (s.size - skipP s 0) (fun g wr => ∃ (a f : Nat) (out : List Dm), g = s.size - skipP s a ∧ a ≤ s.size ∧ out.length ≤ 300 ∧ Hid (s.size - a < f) ∧ Hid (topF s f a out = readP s) ∧ ISt wr (w.heap.size + 1 + 1) (w.heap.size + 1 + 1) s (skipP s a : Int) out ∧ Below (w.heap.size + 1 + 1) w0 wr)
    case atStart => exact ⟨0, s.size + 1, [], rfl, by omega, by simp, by unfold Hid; omega, by unfold Hid; rw [HRP.out], hS1, hW1⟩
    case round =>
      clear hS1 hW1
      obtain ⟨a, f, out, hg, ha, hn, HFU, HTF, hS, hW⟩ := hrel
      have hsk := skipP_le s a ha
      have HS := hideT' hS
      obtain ⟨_, v, hR, ho, hP⟩ := hS
      obtain ⟨o, cap, rfl⟩ := own3_form ho
      have c1 := i_1 hR
      have c2 := i_2 hR
      have c4 : wr.cell? ⟨w.heap.size + 1 + 1 + 1, 0, none⟩ = some (.pointer (some ⟨w.heap.size + 1 + 1, 0, none⟩)) := cell_one hP
      have HO := hideT' ho
      clear ho hP hR
      obtain ⟨f', rfl⟩ : ∃ f', f = f' + 1 := ⟨f - 1, by have := HFU.out; omega⟩
      obtain ⟨k0, k1, k2, k3⟩ := KEEP.out wr hW
      have hwl := RowAt.lt k1
      have HK3 := hideT' k3
      clear k3
      by_cases hend : skipP s a = s.size
      · have HYES : Hid (readP s = some out) := by unfold Hid; rw [← HTF.out, topF, if_pos hend]
        have hge : ¬ (skipP s a : Int) < (s.size : Int) := by omega
        clear hend
        go_wp2_with (first | (refine store_at rfl 23 _ _ rfl rfl w.heap.size 0 (.slice o out.length cap) rfl rfl one_sl rfl 23 #[.slice none 0 0] k0 (show 0 < 1 by omega) ?_; intro w2 hD2 hg2 hs2; have hC2 : RowAt w2 (w.heap.size + 1) 3 #[.int .i64 0] := RowAt.grown k1 hg2 (by intro e; injection e; omega)) | (refine store_at rfl 3 _ _ rfl rfl (w.heap.size + 1) 0 (.int .i64 0) rfl rfl one_int rfl 3 #[.int .i64 0] hC2 (show 0 < 1 by omega) ?_; intro w3 hC3 hg3 hs3))
        have hD3 : RowAt w3 w.heap.size 23 #[.slice o out.length cap] := RowAt.grown (show RowAt w2 w.heap.size 23 #[.slice o out.length cap] from hD2) hg3 (by intro e; injection e; omega)
        have hC3' : RowAt w3 (w.heap.size + 1) 3 #[.int .i64 0] := hC3
        have ho2 := own_keep HO.out hg2 (.inr (own3_ne HO.out k0 (by decide)))
        have ho3 := own_keep ho2 hg3 (.inr (own3_ne ho2 hC2 (by decide)))
        have hW3 : Below w.heap.size w w3 := (k2.grown hg2 (by omega) (by intro k hk; injection hk; omega)).grown hg3 (by omega) (by intro k hk; injection hk; omega)
        refine leaves_cons (f := 28) (args := #[.pointer (some ⟨w.heap.size + 1 + 1 + 1, 0, none⟩), .pointer (some ⟨w.heap.size, 0, none⟩), .pointer (some ⟨w.heap.size + 1, 0, none⟩)]) (by simp) (by simp [go_sem]) ?_
        refine (recov_no _ _ _ _).mono ?_
        rintro e u' w4 ⟨rfl, rfl, rfl⟩
        exact ⟨_, rd_results w.heap.size _ _ 0 _ _ undef _ hD3 hC3', RdAns.yes HYES.out rfl (own_lower ho3 (by omega)) hn hW3⟩
      · have hlt : (skipP s a : Int) < (s.size : Int) := by omega
        have HEND := hideT' hend
        clear hend
        go_wp2_with fail
        refine (idatum_all (2 * s.size + 1) (w.heap.size + 1 + 1) (w.heap.size + 1 + 1) s (skipP s a) out (-1) 0 _ hs hsk.2 (by omega) hn (by omega) HK3.out HS.out).mono ?_
        rintro e w2 hres
        cases hone : oneF s (2 * s.size + 1) (skipP s a) (-1) ((0 : Nat) : Int) out.length with
        | none =>
          have HNO : Hid (readP s = none) := by
            rw [oneF_skip ha] at hone
            unfold Hid; rw [← HTF.out, topF, if_neg HEND.out, show (0 : Int) = ((0 : Nat) : Int) from rfl, hone]
          rw [hone] at hres
          obtain ⟨q, hq, rfl, ⟨a', v', hI, hP'⟩, hW'⟩ := hres
          obtain ⟨m0, m1, m2, _⟩ := KEEP.out w2 (hW.trans hW')
          refine leaves_cons (f := 28) (args := #[.pointer (some ⟨w.heap.size + 1 + 1 + 1, 0, none⟩), .pointer (some ⟨w.heap.size, 0, none⟩), .pointer (some ⟨w.heap.size + 1, 0, none⟩)]) (by simp) (by simp [go_sem]) ?_
          refine (recov_yes w.heap.size s a' q 0 v' _ _ _ m0 m1 hP' hI).mono ?_
          rintro e u' w3 ⟨rfl, rfl, hD3, hC3, hW3⟩
          exact ⟨_, rd_results w.heap.size _ _ q _ _ undef _ hD3 hC3, RdAns.no HNO.out hq rfl (m2.trans hW3)⟩
        | some r =>
          obtain ⟨a', ps⟩ := r
          rw [hone] at hres
          obtain ⟨rfl, hS2, hW2⟩ := hres
          have hle := oneF_le (2 * s.size + 1) (skipP s a) (-1) ((0 : Nat) : Int) out.length a' ps hsk.2 hn hone
          have hl1 : skipP s a < a' := hle.1
          have hl2 : a' ≤ s.size := hle.2.1
          have hl3 : (out ++ ps).length ≤ 300 := by rw [List.length_append]; exact hle.2.2.1
          have HTF2 : Hid (topF s f' a' (out ++ ps) = readP s) := by
            rw [oneF_skip ha] at hone
            unfold Hid; rw [← HTF.out, topF, if_neg HEND.out, show (0 : Int) = ((0 : Nat) : Int) from rfl, hone]
          have HS2 := hideT' hS2
          obtain ⟨_, v2, hR2, ho2, hP2⟩ := hS2
          have c5 : w2.cell? ⟨w.heap.size + 1 + 1 + 1, 0, none⟩ = some (.pointer (some ⟨w.heap.size + 1 + 1, 0, none⟩)) := cell_one hP2
          have hsk2 := skipP_le s a' hl2
          clear hone hle hR2 ho2 hP2
          go_wp2_with fail
          refine (iskip_st (w.heap.size + 1 + 1) (w.heap.size + 1 + 1) s a' (out ++ ps) _ hs hl2 HS2.out).mono ?_
          rintro e w3 ⟨rfl, hS3, hW3⟩
          go_wp2_with fail
          go_roundg (s.size - skipP s a')
          case measure => omega
          case rel => exact ⟨a', f', out ++ ps, rfl, hl2, hl3, by unfold Hid; have := HFU.out; omega, HTF2, hS3, (hW.trans hW2).trans hW3⟩
end Go.Proofs.YtnmofolhfbldjaaGreatDoor

/-
  spec.l3Read: it answers as the plain reader.
-/
namespace Go.Proofs.YtnmofolhfbldjaaGreatDoor
open Go.RowKit
set_option linter.unusedVariables false

/-- Where the model's reader has come to. -/
def TInv (s : ByteArray) (a f : Nat) (c : Int) (out : List Dm) (d : Bool) : Prop :=
  if d then c ≠ 0 ∧ readP s = none else c = 0 ∧ s.size - a < f ∧ topF s f a out = readP s

set_option maxHeartbeats 4000000 in
set_option maxRecDepth 100000 in
theorem specRead_any (s : ByteArray) (w : World) (hsz : s.size ≤ maxLen) :
    Calls Tryz.prog 6 #[.string s] w fun e w' => RdAns s w e w' := by
  unfold maxLen at hsz
  by_cases hlong : (1500 : Int) < (s.size : Int)
  · have HNO : Hid (readP s = none) := by unfold Hid readP; rw [if_pos (by omega)]
    go_enter Tryz.func6, Tryz.ntmps6
    go_wp2
    go_ret2
    exact RdAns.no HNO.out (by decide) rfl (Below.refl _ _)
  · have hs : s.size ≤ 1500 := by omega
    have HRP : Hid (readP s = topF s (s.size + 1) 0 []) := by unfold Hid readP; rw [if_neg (by omega)]
    have hS0 : St (w.alloc (Obj.cells #[Value.string s, Value.int IntKind.i64 0, Value.slice none 0 0, Value.int IntKind.i64 0] 36)) w.heap.size w.heap.size s ((0 : Nat) : Int) [] 0 := ⟨Nat.le_refl _, _, RowAt.new w _ _, World.ownsRow_nil _ _ _ _⟩
    have HS0 := hideT' hS0
    clear hS0
    go_enter Tryz.func6, Tryz.ntmps6
    go_wp2_with fail
    go_loopg [] (s.size + 1) (fun g wr => ∃ (d : Bool) (a f : Nat) (c : Int) (out : List Dm), g = (if d then 0 else s.size - a + 1) ∧ a ≤ s.size ∧ out.length ≤ 300 ∧ Hid (TInv s a f c out d) ∧ St wr w.heap.size w.heap.size s (a : Int) out c ∧ Below w.heap.size w wr)
    case atStart => exact ⟨false, 0, s.size + 1, 0, [], rfl, by omega, by simp, ⟨rfl, by omega, by rw [HRP.out]⟩, HS0.out, (Below.refl _ _).alloc (Nat.le_refl _) _⟩
    case round =>
      obtain ⟨d, a, f, c, out, hg, ha, hn, HIV, hS, hW⟩ := hrel
      have hsk := skipP_le s a ha
      have hv := HIV.out
      unfold TInv at hv
      cases d with
      | true =>
        rw [if_pos rfl] at hv
        obtain ⟨hc, hno⟩ := hv
        have hc' : (c != 0) = true := by simpa using hc
        have HC := hideT' hc
        have HNO := hideT' hno
        clear hc hno
        go_wp2_with fail
        refine (skip_st w.heap.size w.heap.size s a c out _ hs ha hS).mono ?_
        rintro e w2 ⟨rfl, ⟨_, v, hR, ho⟩, hW2⟩
        have hW2' := hW.trans hW2
        have c0 := r_0 hR
        have c1 := r_1 hR
        have c3 := r_3 hR
        clear ho hR hS
        by_cases hend : skipP s a = s.size
        · have hq : ((skipP s a : Int) == (s.size : Int)) = true := by rw [hend]; simp
          clear hend
          go_wp2_with fail
          go_quiet (fail)
          go_wp2_with fail
          go_quiet (fail)
          go_wp2
          go_ret2
          exact RdAns.no HNO.out HC.out rfl ⟨hW2'.os, hW2'.tape, hW2'.output, hW2'.size, hW2'.block⟩
        · have hq : ((skipP s a : Int) == (s.size : Int)) = false := beq_eq_false_iff_ne.2 (by omega)
          clear hend
          go_wp2_with fail
          go_quiet (fail)
          go_wp2_with fail
          go_quiet (fail)
          go_wp2
          go_ret2
          exact RdAns.no HNO.out HC.out rfl ⟨hW2'.os, hW2'.tape, hW2'.output, hW2'.size, hW2'.block⟩
      | false =>
        rw [if_neg (by decide)] at hv
        obtain ⟨rfl, hfu, htf⟩ := hv
        have HTF := hideT' htf
        obtain ⟨f', rfl⟩ : ∃ f', f = f' + 1 := ⟨f - 1, by omega⟩
        clear htf HIV
        go_wp2_with fail
        refine (skip_st w.heap.size w.heap.size s a 0 out _ hs ha hS).mono ?_
        rintro e w2 ⟨rfl, hS2, hW2⟩
        have hW2' := hW.trans hW2
        have HS2 : Hid (∀ n, St (w2.drewN n) w.heap.size w.heap.size s (skipP s a : Int) out 0) := fun n => hS2
        obtain ⟨_, v, hR, ho⟩ := hS2
        have c0 := r_0 hR
        have c1 := r_1 hR
        have c2 := r_2 hR
        have c3 := r_3 hR
        have HO := hideT' ho
        clear ho hR hS
        by_cases hend : skipP s a = s.size
        · have HYES : Hid (readP s = some out) := by unfold Hid; rw [← HTF.out, topF, if_pos hend]
          have hq : ((skipP s a : Int) == (s.size : Int)) = true := by rw [hend]; simp
          clear hend
          go_wp2_with fail
          go_quiet (fail)
          go_wp2
          go_ret2
          exact RdAns.yes HYES.out rfl HO.out hn ⟨hW2'.os, hW2'.tape, hW2'.output, hW2'.size, hW2'.block⟩
        · have hq : ((skipP s a : Int) == (s.size : Int)) = false := beq_eq_false_iff_ne.2 (by omega)
          have HEND := hideT' hend
          clear hend
          go_wp2_with fail
          go_quiet (fail)
          go_wp2_with fail
          refine (one_all (2 * s.size + 1) w.heap.size w.heap.size s (skipP s a) out (-1) 0 _ hs hsk.2 (by omega) hn (by omega) (HS2.out _)).mono ?_
          rintro e w3 ⟨rfl, hres, hW3⟩
          have hW3' : Below w.heap.size w w3 := hW2'.trans ⟨hW3.os, hW3.tape, hW3.output, hW3.size, hW3.block⟩
          cases hone : oneF s (2 * s.size + 1) (skipP s a) (-1) ((0 : Nat) : Int) out.length with
          | none =>
            have HNO : Hid (readP s = none) := by
              rw [oneF_skip ha] at hone
              unfold Hid; rw [← HTF.out, topF, if_neg HEND.out, show (0 : Int) = ((0 : Nat) : Int) from rfl, hone]
            rw [hone] at hres
            obtain ⟨a', out', c', hc', ha', hn', hS3⟩ := hres
            clear hone
            go_wp2_with fail
            go_roundg 0
            case measure => simp at hg; omega
            case rel => exact ⟨true, a', 0, c', out', rfl, ha', hn', ⟨hc', HNO.out⟩, hS3, hW3'⟩
          | some r =>
            obtain ⟨a', ps⟩ := r
            rw [hone] at hres
            have hle := oneF_le (2 * s.size + 1) (skipP s a) (-1) ((0 : Nat) : Int) out.length a' ps hsk.2 hn hone
            have hl1 : skipP s a < a' := hle.1
            have hl2 : a' ≤ s.size := hle.2.1
            have HL3 : Hid ((out ++ ps).length ≤ 300) := by unfold Hid; rw [List.length_append]; exact hle.2.2.1
            have HTF2 : Hid (topF s f' a' (out ++ ps) = readP s) := by
              rw [oneF_skip ha] at hone
              unfold Hid; rw [← HTF.out, topF, if_neg HEND.out, show (0 : Int) = ((0 : Nat) : Int) from rfl, hone]
            clear hone hle
            go_wp2_with fail
            go_roundg (s.size - a' + 1)
            case measure => simp at hg; omega
            case rel => exact ⟨false, a', f', 0, out ++ ps, rfl, hl2, HL3.out, ⟨rfl, by omega, HTF2.out⟩, hres, hW3'⟩
end Go.Proofs.YtnmofolhfbldjaaGreatDoor
