/-
  The walk through a tree: walkFrom, and the iterator that walk gives.
-/
import Derived.Test.YtgolfbjfopoeeaaDoorWalkT
namespace Go.Proofs.YtgolfbjfopoeeaaDoor
open Go.RowKit Go.Shelf BL
set_option linter.unusedVariables false
attribute [local go_sem] Oper.semAt_some

theorem held_one {ops : Array Oper} {Q : Exit → Act → World → Prop} {md : Region.Mode} {S : World → Prop} {o : Oper} {fuel : Nat} {listed : Array Bool} {a : Act} {w : World} (i : Nat) (hr : Region.ready md ops listed = [i]) (hi : ops[i]? = some o) (hw : Region.wanted o (yielded ops a.tmps) = true)
    (h : ∀ K : Act → World → Prop, Hid (∀ a w', S w' → wpAnyH Tryd.prog md ops Q S fuel (listed.setIfInBounds i true) a w' → K a w') → o.wp Tryd.prog a w K Q) : wpAnyH Tryd.prog md ops Q S (fuel + 1) listed a w := by
  refine wpAnyH_ready hr (by simp) (AllReadyH.cons hi (fun K hK => ?_) AllReadyH.nil)
  rw [if_pos hw]
  exact h K (fun a w' hS h => hK.out _ _ hS (fun _ => h))
/-- Three cells are written whole. -/
theorem store_3_wp {o : Oper} {a : Act} {w : World} {K : Act → World → Prop} {Q : Exit → Act → World → Prop} (T : TypeId) (x y : Operand) (ho : o.op = .store T x y) (hd : o.dst = none) (hs3 : (Tryd.prog.info? T).map (·.size) = some 3)
    (b : Nat) (cs : Array Value) (h3 : cs.size = 3) (hone : cs.all (·.oneCell') = true) (hx : a.eval x = .pointer (some ⟨b, 0, none⟩)) (hy : a.eval y = .agg cs) (c0 : Array Value) (h0 : c0.size = 3) (hN : RowAt w b T c0)
    (h : ∀ w', RowAt w' b T cs → w.grownBy w' (some b) → w'.heap.size = w.heap.size → K a w') : o.wp Tryd.prog a w K Q := by
  refine wp_store_row T x y ho b cs hx hy T c0 hN (by rw [hs3, h3]) (by rw [h0, h3]) hone ?_
  rw [hd]
  exact h _ (setRow_heap w b _ _ _ _ hN) ⟨rfl, rfl, rfl, by simp, fun k _ hne => setRow_other w b k _ (by intro e; exact hne (by rw [e]))⟩ (by simp)

/-- The walks of parts, one behind the other. -/
def kidsW : List Lm → Nat → Nat → Nat → List Spot
  | [], _, _, _ => []
  | s :: ss, p, a, m => s.walk p (a : Int) m ++ kidsW ss (p + s.sz) a m
def szsL : List Lm → Nat
  | [] => 0
  | s :: ss => s.sz + szsL ss
theorem szsL_app (A B : List Lm) : szsL (A ++ B) = szsL A + szsL B := by
  induction A with
  | nil => simp [szsL]
  | cons s ss ih => simp only [List.cons_append, szsL, ih]; omega
theorem kidsW_app (A B : List Lm) : ∀ (p a m : Nat), kidsW (A ++ B) p a m = kidsW A p a m ++ kidsW B (p + szsL A) a m := by
  induction A with
  | nil => intro p a m; simp [kidsW, szsL]
  | cons s ss ih => intro p a m; simp only [List.cons_append, kidsW, szsL, ih, List.append_assoc]; rw [show p + s.sz + szsL ss = p + (s.sz + szsL ss) by omega]
theorem Lm.walk_kids (t : Lm) (a : Nat) (up : Int) (m : Nat) : t.walk a up m = ⟨a, up, m, t⟩ :: kidsW t.kids (a + 1) a (m + t.lams) := by
  cases t <;> simp [Lm.walk, Lm.kids, Lm.lams, kidsW]
theorem Lm.sz_kids (t : Lm) : t.sz = szsL t.kids + 1 := by
  cases t <;> simp [Lm.sz, Lm.kids, szsL]
theorem Lm.kids_lt {t s : Lm} (h : s ∈ t.kids) : s.sz < t.sz := by
  cases t with
  | var n => simp [Lm.kids] at h
  | lam t => simp [Lm.kids] at h; subst h; simp [Lm.sz]
  | app p q => simp [Lm.kids] at h; rcases h with rfl | rfl <;> simp [Lm.sz] <;> omega

theorem ints3_one (x y z : Int) : (#[Value.int .i64 x, .int .i64 y, .int .i64 z].all (·.oneCell')) = true := Array.all_eq_true_iff_forall_mem.2 (by intro v hv; simp at hv; rcases hv with rfl | rfl | rfl <;> rfl)
def idxV (v : Value) : Nat := match v with | .int _ y => y.toNat | _ => 0
def WalkOut (J : List (Spot × Nat) → (Nat → Prop) → World → Prop) (U : Nat → Prop) (W : World) (pre : List (Spot × Nat)) (r : List Spot) (W' : World) : Prop :=
  ∃ ys U', ys.map Prod.fst = r ∧ J (pre ++ ys) U' W' ∧ MoreB U U' W ∧ KeepsB U W W'
theorem TrIn.inP {w : World} {P : Nat → Prop} {t : Lm} {b : Nat} (h : TrIn w P t b) : P b := by
  cases t with
  | var n => exact h.1
  | lam t => exact h.1
  | app s t => exact h.1
/-- What walkFrom does. -/
def WalkC (N : Nat) : Prop := ∀ (t : Lm), t.sz ≤ N → ∀ (b a : Nat) (up : Int) (m l N0 : Nat) (J : List (Spot × Nat) → (Nat → Prop) → World → Prop) (JF : World → Prop) (W : World) (U : Nat → Prop) (pre : List (Spot × Nat)) (xs post : List Spot),
    (∀ s V A, J s V A → ∀ b, V b → b < A.heap.size) →
    N0 ≤ W.heap.size → (∀ s V A B row, J s V A → A.grownBy B row → (∀ r, row = some r → ¬ V r ∧ N0 ≤ r) → J s V B) →
    (∀ pre x V W1, J pre V W1 → ((∃ post, xs = pre.map Prod.fst ++ x.1 :: post) ∧ TrIn W1 (fun z => ¬ V z) x.1.t x.2) → YieldAt Fence.wide 2 Tryd.prog l (encS x) W1 fun e W' => (e = .returned (.bool true) ∧ ∃ V', J (pre ++ [x]) V' W' ∧ MoreB V V' W1 ∧ KeepsB V W1 W') ∨ (e = .returned (.bool false) ∧ JF W')) →
    TrIn W (fun z => ¬ U z) t b → J pre U W → xs = pre.map Prod.fst ++ t.walk a up m ++ post → a + t.sz ≤ 1000000 → m + t.sz ≤ 1000000 →
    CallsIn Fence.wide 3 Tryd.prog 80 #[.pointer (some ⟨b, 0, none⟩), .agg #[.int .i64 (a : Int), .int .i64 up, .int .i64 (m : Int)], .func (.yield l) #[] #[]] W fun e W' =>
      (e = .returned (.bool true) ∧ WalkOut J U W pre (t.walk a up m) W') ∨ (e = .returned (.bool false) ∧ JF W')

set_option maxRecDepth 100000 in
set_option maxHeartbeats 8000000 in
theorem walkFrom_step (N : Nat) (IH : ∀ n, n < N → WalkC n) : WalkC N := by
  intro t ht b a up m l N0 J JF W U pre xs post hlt hN0 hst hY hT hJ hxs ha hm
  have HIH := hideT' IH
  have HLT := hideT' hlt
  have HST := hideT' hst
  have HY := hideT' hY
  have HX := hideT' hxs
  have HTN := hideT' ht
  obtain ⟨h0, hh0⟩ : ∃ h0, h0 = W.heap.size := ⟨_, rfl⟩
  obtain ⟨W1, hW1⟩ : ∃ W1, W1 = W.alloc (.cells #[.int .i64 (a : Int), .int .i64 up, .int .i64 (m : Int)] 112) := ⟨_, rfl⟩
  have hB1 : Below W.heap.size W W1 := by rw [hW1]; exact (Below.refl _ _).alloc (Nat.le_refl _) _
  have hR1 : RowAt W1 h0 112 #[.int .i64 (a : Int), .int .i64 up, .int .i64 (m : Int)] := by rw [hW1, hh0]; exact RowAt.new _ _ _
  have hJ1 : J pre U W1 := hst _ _ _ _ none hJ ⟨hB1.os, hB1.tape, hB1.output, hB1.size, fun k hk _ => hB1.block k hk⟩ (fun r e => by cases e)
  have hT1 : TrIn W1 (fun z => ¬ U z) t b := TrIn.below hB1 hT
  have hU0 : ¬ U h0 := fun h => by have := hlt _ _ _ hJ _ h; omega
  have HUW : Hid (∀ z, U z → z < W.heap.size) := fun z hz => hlt _ _ _ hJ z hz
  have HYL := hideT' (hY pre (⟨a, up, m, t⟩, b) U W1 hJ1 ⟨⟨kidsW t.kids (a + 1) a (m + t.lams) ++ post, by rw [hxs, Lm.walk_kids]; simp⟩, hT1⟩)
  have q0 : W1.cell? ⟨h0, 0, none⟩ = some (.int .i64 (a : Int)) := by rw [cell_of_row _ _ _ _ _ _ hR1]; rfl
  have q1 : W1.cell? ⟨h0, 1, none⟩ = some (.int .i64 up) := by rw [cell_of_row _ _ _ _ _ _ hR1]; rfl
  have q2 : W1.cell? ⟨h0, 2, none⟩ = some (.int .i64 (m : Int)) := by rw [cell_of_row _ _ _ _ _ _ hR1]; rfl
  have HR1 := hideT' hR1
  have HB1 := hideT' hB1
  have HT := hideT' hT
  have hz := zero_spot.1
  have HH0 := hideT' hh0
  clear IH hlt hst hY hT hJ hxs ht hB1 hR1 hJ1 hT1
  refine callsIn_of_wp Tryd.func80 rfl trivial ?_ rfl
  simp only [Tryd.ntmps80, List.size_toArray, List.length_cons, List.length_nil, Nat.reduceAdd, Nat.reduceSub, Array.replicate_succ, Array.replicate_zero, List.push_toArray, List.append_toArray, List.nil_append, List.cons_append]
  gi_wp2
  rw [← hW1, ← hh0]
  clear hW1 hh0
  gi_wp2
  obtain ⟨fn, tmps, assign, body, hyl, hR⟩ := HYL.out
  unfold encS at hyl
  simp only at hyl
  rw [hyl]
  gi_wp2
  refine hR.mono ?_
  rintro e W2 hpost
  rcases hpost with ⟨rfl, V, hJ2, hmo, hke⟩ | ⟨rfl, hF⟩
  · have HJ2 := hideT' hJ2
    have HMO := hideT' hmo
    have HKE := hideT' hke
    have hV0 : ¬ V h0 := fun h => by rcases hmo h0 h with h | h; exact hU0 h; have := HR1.out.lt; omega
    have HR2 : Hid (RowAt W2 h0 112 #[.int .i64 (a : Int), .int .i64 up, .int .i64 (m : Int)]) := by unfold Hid RowAt; rw [hke.2 h0 HR1.out.lt hU0]; exact HR1.out
    have HT2 : Hid (TrIn W2 (fun z => ¬ V z ∧ z < W.heap.size) t b) := TrIn.keep (P := fun z => ¬ U z ∧ z < W.heap.size) hke.1 (fun x hx hl => hke.2 x hl hx.1) (fun x hx hl => ⟨fun hv => by rcases hmo x hv with h | h; exact hx.1 h; omega, hx.2⟩) (TrIn.below HB1.out (TrIn.mono (fun z h hl => ⟨h, hl⟩) HT.out))
    have hwa : IntKind.i64.wrap ((a : Int) + 1) = (a : Int) + 1 := by rw [IntKind.wrap_i64]; have := t.sz_pos; omega
    have hla : t.lams ≤ 1 := by cases t <;> simp [Lm.lams]
    have hwm : IntKind.i64.wrap ((m : Int) + (t.lams : Int)) = (m : Int) + (t.lams : Int) := by rw [IntKind.wrap_i64]; have := t.sz_pos; omega
    have HWA := hideT' (And.intro hwa hwm)
    clear hJ2 hmo hke q0 q1 q2
    gi_wp2
    refine wpIn_wide.2 ?_
    have S0 : ∀ w', Below W2.drew.heap.size W2.drew w' → (RowAt w' h0 112 #[.int .i64 (a : Int), .int .i64 up, .int .i64 (m : Int)] ∧ TrIn w' (fun z => ¬ V z) t b) := fun w' hw' => ⟨RowAt.below (w := W2.drew) HR2.out hw' HR2.out.lt, TrIn.below (w := W2.drew) hw' (TrIn.keep (w := W2) (w' := W2.drew) (Nat.le_refl _) (fun _ _ _ => rfl) (fun _ h _ => h.1) HT2.out)⟩
    refine float_begin (fun w' => RowAt w' h0 112 #[.int .i64 (a : Int), .int .i64 up, .int .i64 (m : Int)] ∧ TrIn w' (fun z => ¬ V z) t b) 11 7 112 #[.int .i64 0, .int .i64 0, .int .i64 0] W2.heap.size 12 (by kernel_rfl) rfl ?_
    refine float_val 0 15 rfl rfl (by kernel_rfl) (by kernel_rfl) (by kernel_rfl) (by kernel_rfl) (by kernel_rfl) noPanic_put (fun _ => rfl) (by decide) (by decide) (.pointer (some ⟨h0, 0, none⟩)) (fun _ _ => by go_simp) (fun _ => fun _ _ => by go_simp) (S0) ?_
    simp only [Act.put, List.setIfInBounds_toArray, List.set_cons_zero, List.set_cons_succ]
    refine float_val 1 16 rfl rfl (by kernel_rfl) (by kernel_rfl) (by kernel_rfl) (by kernel_rfl) (by kernel_rfl) noPanic_put (fun _ => rfl) (by decide) (by decide) (.int .i64 (a : Int)) (fun w' h => by have c : w'.cell? ⟨h0, 0, none⟩ = some _ := (by rw [cell_of_row w' _ _ _ _ _ h.1]; rfl); go_simp) (fun _ w' h => by have c : w'.cell? ⟨h0, 0, none⟩ = some _ := (by rw [cell_of_row w' _ _ _ _ _ h.1]; rfl); go_simp) (S0) ?_
    simp only [Act.put, List.setIfInBounds_toArray, List.set_cons_zero, List.set_cons_succ]
    refine float_val 2 17 rfl rfl (by kernel_rfl) (by kernel_rfl) (by kernel_rfl) (by kernel_rfl) (by kernel_rfl) noPanic_put (fun _ => rfl) (by decide) (by decide) (.int .i64 ((a : Int) + 1)) (fun _ _ => by go_simp) (fun _ => fun _ _ => by go_simp) (S0) ?_
    simp only [Act.put, List.setIfInBounds_toArray, List.set_cons_zero, List.set_cons_succ]
    refine float_val 3 18 rfl rfl (by kernel_rfl) (by kernel_rfl) (by kernel_rfl) (by kernel_rfl) (by kernel_rfl) noPanic_put (fun _ => rfl) (by decide) (by decide) (.pointer (some ⟨h0, 0, none⟩)) (fun _ _ => by go_simp) (fun _ => fun _ _ => by go_simp) (S0) ?_
    simp only [Act.put, List.setIfInBounds_toArray, List.set_cons_zero, List.set_cons_succ]
    refine float_val 4 19 rfl rfl (by kernel_rfl) (by kernel_rfl) (by kernel_rfl) (by kernel_rfl) (by kernel_rfl) noPanic_put (fun _ => rfl) (by decide) (by decide) (.int .i64 (a : Int)) (fun w' h => by have c : w'.cell? ⟨h0, 0, none⟩ = some _ := (by rw [cell_of_row w' _ _ _ _ _ h.1]; rfl); go_simp) (fun _ w' h => by have c : w'.cell? ⟨h0, 0, none⟩ = some _ := (by rw [cell_of_row w' _ _ _ _ _ h.1]; rfl); go_simp) (S0) ?_
    simp only [Act.put, List.setIfInBounds_toArray, List.set_cons_zero, List.set_cons_succ]
    refine float_val 5 20 rfl rfl (by kernel_rfl) (by kernel_rfl) (by kernel_rfl) (by kernel_rfl) (by kernel_rfl) noPanic_put (fun _ => rfl) (by decide) (by decide) (.pointer (some ⟨h0, 2, none⟩)) (fun _ _ => by go_simp) (fun _ => fun _ _ => by go_simp) (S0) ?_
    simp only [Act.put, List.setIfInBounds_toArray, List.set_cons_zero, List.set_cons_succ]
    refine float_val 6 21 rfl rfl (by kernel_rfl) (by kernel_rfl) (by kernel_rfl) (by kernel_rfl) (by kernel_rfl) noPanic_put (fun _ => rfl) (by decide) (by decide) (.int .i64 (m : Int)) (fun w' h => by have c : w'.cell? ⟨h0, 2, none⟩ = some _ := (by rw [cell_of_row w' _ _ _ _ _ h.1]; rfl); go_simp) (fun _ w' h => by have c : w'.cell? ⟨h0, 2, none⟩ = some _ := (by rw [cell_of_row w' _ _ _ _ _ h.1]; rfl); go_simp) (S0) ?_
    simp only [Act.put, List.setIfInBounds_toArray, List.set_cons_zero, List.set_cons_succ]
    refine float_val 7 22 rfl rfl (by kernel_rfl) (by kernel_rfl) (by kernel_rfl) (by kernel_rfl) (by kernel_rfl) noPanic_put (fun _ => rfl) (by decide) (by decide) (.pointer (some ⟨b, 0, none⟩)) (fun _ _ => by go_simp) (fun _ => fun _ _ => by go_simp) (S0) ?_
    simp only [Act.put, List.setIfInBounds_toArray, List.set_cons_zero, List.set_cons_succ]
    refine float_call 8 23 rfl rfl rfl rfl rfl (fun _ => rfl) (fun _ => rfl) (by kernel_rfl) (by kernel_rfl) (by decide) (by decide) hz (Nat.le_refl _) 93 #[.pointer (some ⟨b, 0, none⟩)] (fun _ => by go_simp) (fun _ _ => by go_simp) (S0) _ (fun w' hw' => lambdasOf_any t b _ w' (S0 w' hw').2) ?_
    rintro wx e wy hwx ⟨rfl, rfl⟩
    have S1 : ∀ w', Below wy.heap.size wy w' → (RowAt w' h0 112 #[.int .i64 (a : Int), .int .i64 up, .int .i64 (m : Int)] ∧ TrIn w' (fun z => ¬ V z) t b) := fun w' hw' => S0 w' (hwx.trans (hw'.mono hwx.size))
    refine ⟨_, rfl, Below.refl _ _, ?_⟩
    simp only [Act.put, List.setIfInBounds_toArray, List.set_cons_zero, List.set_cons_succ]
    refine float_val 9 24 rfl rfl (by kernel_rfl) (by kernel_rfl) (by kernel_rfl) (by kernel_rfl) (by kernel_rfl) noPanic_put (fun _ => rfl) (by decide) (by decide) (.int .i64 ((m : Int) + (t.lams : Int))) (fun _ _ => by go_simp) (fun _ => fun _ _ => by go_simp) (S1) ?_
    simp only [Act.put, List.setIfInBounds_toArray, List.set_cons_zero, List.set_cons_succ]
    refine float_val 10 25 rfl rfl (by kernel_rfl) (by kernel_rfl) (by kernel_rfl) (by kernel_rfl) (by kernel_rfl) noPanic_put (fun _ => rfl) (by decide) (by decide) (.agg #[.int .i64 ((a : Int) + 1), .int .i64 (a : Int), .int .i64 ((m : Int) + (t.lams : Int))]) (fun _ _ => by go_simp) (fun _ => fun _ _ => by go_simp) (S1) ?_
    simp only [Act.put, List.setIfInBounds_toArray, List.set_cons_zero, List.set_cons_succ]
    refine float_end rfl rfl rfl (fun _ => rfl) (by kernel_rfl) hz (hwx.size) (S1) ?_
    intro W3 nb hW3 hN3 hnb
    refine held_one 12 (by kernel_rfl) rfl rfl ?_
    intro K hK
    refine store_3_wp 112 _ _ rfl rfl zero_spot.2 nb #[.int .i64 ((a : Int) + 1), .int .i64 (a : Int), .int .i64 ((m : Int) + (t.lams : Int))] rfl (ints3_one _ _ _) rfl rfl #[.int .i64 0, .int .i64 0, .int .i64 0] rfl hN3 ?_
    intro W4 hR4 hg4 hs4
    have hB23 : Below W2.heap.size W2 W3 := by
      have h1 : Below W2.drew.heap.size W2.drew W3 := hwx.trans (hW3.mono hwx.size)
      exact ⟨h1.os, h1.tape, h1.output, h1.size, h1.block⟩
    have hkp : ∀ x, x < W2.heap.size → W4.heap[x]? = W2.heap[x]? := fun x hx => by
      rw [hg4.block x (by have := hB23.size; omega) (by intro e; injection e with e; omega)]
      exact hB23.block x hx
    have hs24 : W2.heap.size ≤ W4.heap.size := by have := hB23.size; omega
    have hV2 : ∀ z, V z → z < W2.heap.size := fun z hz => HLT.out _ _ _ HJ2.out z hz
    have hVn : ¬ V nb := fun h => by have := hV2 nb h; omega
    have hT4 : TrIn W4 (fun z => ¬ V z ∧ z < W.heap.size) t b := TrIn.keep hs24 (fun x _ hl => hkp x hl) (fun _ h _ => h) HT2.out
    have hJ4 : J (pre ++ [(⟨a, up, m, t⟩, b)]) V W4 := HST.out _ _ W3 W4 (some nb) (HST.out _ _ W2 W3 none HJ2.out ⟨hB23.os, hB23.tape, hB23.output, hB23.size, fun k hk _ => hB23.block k hk⟩ (fun r e => by cases e)) hg4 (fun r e => by cases e; exact ⟨hVn, by have := HB1.out.size; have := HKE.out.1; omega⟩)
    have hK4 : KeepsB U W W4 := by
      refine ⟨by have := HB1.out.size; have := HKE.out.1; omega, fun x hx hu => ?_⟩
      rw [hkp x (by have := HB1.out.size; have := HKE.out.1; omega), HKE.out.2 x (by have := HB1.out.size; omega) hu]
      exact HB1.out.block x hx
    have hM4 : MoreB U V W := fun z hz => by
      rcases HMO.out z hz with h | h
      · exact .inl h
      · exact .inr (by have := HB1.out.size; omega)
    refine hK.out _ _ ⟨by unfold RowAt; rw [hkp h0 HR2.out.lt]; exact HR2.out, TrIn.mono (fun _ h _ => h.1) hT4⟩ ?_
    refine wpAnyH_done (by kernel_rfl) ?_ _
    refine NoPanic.normal ?_
    obtain ⟨o, c, hpc, _⟩ := hT4.parts
    have hbl := hT4.lt
    have HI : Hid (J (pre ++ [(⟨a, up, m, t⟩, b)]) V W4 ∧ MoreB U V W ∧ KeepsB U W W4 ∧ RowAt W4 nb 112 #[.int .i64 ((a : Int) + 1), .int .i64 (a : Int), .int .i64 ((m : Int) + (t.lams : Int))] ∧ ¬ V nb ∧ TrIn W4 (fun z => ¬ V z ∧ z < W.heap.size) t b) := ⟨hJ4, hM4, hK4, hR4, hVn, hT4⟩
    have HWN : Hid (W.heap.size ≤ nb) := by unfold Hid; have := HB1.out.size; have := HKE.out.1; omega
    obtain ⟨n, hn⟩ : ∃ n, n = t.kids.length := ⟨_, rfl⟩
    have hn2 : n ≤ 2 := by rw [hn]; cases t <;> simp [Lm.kids]
    rw [← hn] at hpc
    have HN := hideT' hn
    clear hn hK S1 S0 hW3 hN3 hR4 hg4 hs4 hB23 hkp hs24 hV2 hVn hT4 hJ4 hK4 hM4 hwx
    gi_wp2
    gi_loopw [31] (fun x wr => ∃ (As Bs : List Lm) (ys : List (Spot × Nat)) (V' : Nat → Prop), x = .int .i64 (As.length : Int) ∧ t.kids = As ++ Bs ∧ Hid (ys.map Prod.fst = ⟨a, up, m, t⟩ :: kidsW As (a + 1) a (m + t.lams)) ∧ Hid (J (pre ++ ys) V' wr ∧ MoreB U V' W ∧ KeepsB U W wr ∧ RowAt wr nb 112 #[.int .i64 ((a + 1 + szsL As : Nat) : Int), .int .i64 (a : Int), .int .i64 ((m : Int) + (t.lams : Int))] ∧ ¬ V' nb ∧ TrIn wr (fun z => ¬ V' z ∧ z < W.heap.size) t b ∧ wr.heap[b]? = W4.heap[b]?)) (fun x wr => n - idxV x)
    case atStart => exact ⟨[], t.kids, [(⟨a, up, m, t⟩, b)], V, rfl, rfl, rfl, ⟨HI.out.1, HI.out.2.1, HI.out.2.2.1, by simpa [szsL] using HI.out.2.2.2.1, HI.out.2.2.2.2.1, HI.out.2.2.2.2.2, rfl⟩⟩
    case round =>
      obtain ⟨As, Bs, ys, V', rfl, hk, HYS, HS⟩ := hrel
      obtain ⟨j, hj⟩ : ∃ j, j = As.length := ⟨_, rfl⟩
      rw [← hj]
      have HJL := hideT' hj
      have HKK := hideT' hk
      clear hk hj
      by_cases hlt : (j : Int) < (n : Int)
      · obtain ⟨T, Bs', rfl⟩ : ∃ T Bs', Bs = T :: Bs' := by
          have h1 := congrArg List.length HKK.out
          rw [List.length_append, ← HN.out, ← HJL.out] at h1
          cases Bs with
          | nil => simp at h1; omega
          | cons T Bs' => exact ⟨T, Bs', rfl⟩
        obtain ⟨hJr, hMr, hKr, hRr, hVr, hTr, hbr⟩ := HS.out
        obtain ⟨o', c', hpc', hkid⟩ := hTr.parts
        have hkj : t.kids[j]? = some T := by rw [HKK.out, HJL.out]; simp
        obtain ⟨g, b1, ho', hg, hgP, hcb1, hT1⟩ := hkid j T hkj
        have hoo : o = o' := by
          have h1 : wr.cell? ⟨b, 3, none⟩ = W4.cell? ⟨b, 3, none⟩ := World.cell?_of_block (w := W4) (a := ⟨b, 3, none⟩) hbr
          rw [hpc', hpc, ← HN.out] at h1
          injection h1 with h1
          injection h1 with h1
          exact h1.symm
        subst hoo
        subst ho'
        have HTT : Hid (TrIn wr (fun z => ¬ V' z) T b1) := TrIn.mono (fun _ h _ => h.1) hT1
        have hTm : T ∈ t.kids := by rw [HKK.out]; simp
        have hTs := Lm.kids_lt hTm
        have hszs : a + 1 + szsL As + T.sz ≤ a + t.sz := by
          rw [Lm.sz_kids t, HKK.out, szsL_app]; simp only [szsL]; omega
        obtain ⟨p, hp⟩ : ∃ p, p = a + 1 + szsL As := ⟨_, rfl⟩
        rw [← hp] at hRr hszs
        have HPP := hideT' hp
        have r0 : wr.cell? ⟨nb, 0, none⟩ = some (.int .i64 (p : Int)) := by rw [cell_of_row _ _ _ _ _ _ hRr]; rfl
        have r1 : wr.cell? ⟨nb, 1, none⟩ = some (.int .i64 (a : Int)) := by rw [cell_of_row _ _ _ _ _ _ hRr]; rfl
        have r2 : wr.cell? ⟨nb, 2, none⟩ = some (.int .i64 ((m : Int) + (t.lams : Int))) := by rw [cell_of_row _ _ _ _ _ _ hRr]; rfl
        have HXS : Hid (xs = (pre ++ ys).map Prod.fst ++ T.walk p (a : Int) (m + t.lams) ++ (kidsW Bs' (p + T.sz) a (m + t.lams) ++ post)) := by
          unfold Hid
          rw [HX.out, Lm.walk_kids, HKK.out, kidsW_app, List.map_append, HYS.out, HPP.out]
          simp [kidsW]
        have HCALL := hideT' ((callsIn_wide (n := 2)).2 (callsIn_wide.1 (HIH.out T.sz (by have := HTN.out; omega) T (Nat.le_refl _) b1 p (a : Int) (m + t.lams) l N0 J JF wr V' (pre ++ ys) xs _ HLT.out (Nat.le_trans hN0 hKr.1) HST.out HY.out HTT.out hJr HXS.out (by omega) (by omega))))
        have hcast : ((m + t.lams : Nat) : Int) = (m : Int) + (t.lams : Int) := by omega
        rw [hcast] at HCALL
        clear hcast hpc' hkid hkj hT1 hTm hp hJr hMr hKr hbr hTr hgP
        have HRR := hideT' hRr
        have hnw : nb < wr.heap.size := hRr.lt
        clear hRr
        gi_wp2
        refine ⟨trivial, HCALL.out.mono ?_⟩
        rintro e W5 hpost
        rcases hpost with ⟨rfl, ys2, V2, hy2, hJ5, hM5, hK5⟩ | ⟨rfl, hF⟩
        · have hT5 : TrIn W5 (fun z => ¬ V2 z) T b1 := TrIn.keep hK5.1 (fun x hx hl => hK5.2 x hl hx) (fun x hx hl hv => by rcases hM5 x hv with h | h; exact hx h; omega) HTT.out
          have hc4 := hT5.size
          have hR5 : RowAt W5 nb 112 #[.int .i64 (p : Int), .int .i64 (a : Int), .int .i64 ((m : Int) + (t.lams : Int))] := by unfold RowAt; rw [hK5.2 nb hnw hVr]; exact HRR.out
          have s0 : W5.cell? ⟨nb, 0, none⟩ = some (.int .i64 (p : Int)) := by rw [cell_of_row _ _ _ _ _ _ hR5]; rfl
          have hV2n : ¬ V2 nb := fun h => by rcases hM5 nb h with h | h; exact hVr h; omega
          have HP5 := hideT' (And.intro hy2 (And.intro hJ5 (And.intro hM5 hK5)))
          have HR5 := hideT' hR5
          have hwp : IntKind.i64.wrap ((p : Int) + (T.sz : Int)) = (p : Int) + (T.sz : Int) := by rw [IntKind.wrap_i64]; omega
          clear hy2 hJ5 hM5 hK5 hT5 hR5 r0 r1 r2
          gi_wp2
          refine wpIn_wide.2 (wp_region_still_tail 8 (by kernel_rfl) (by kernel_rfl) ?_)
          simp only [List.take_succ_cons, List.take_zero, List.drop_succ_cons, List.drop_zero]
          repeat still_step
          refine wpStill_nil ?_
          refine store_at rfl 3 _ _ rfl rfl nb 0 (.int .i64 ((p : Int) + (T.sz : Int))) rfl rfl one_i64 rfl 112 _ (RowAt.drawn HR5.out) (show 0 < 3 by omega) ?_
          intro W6 hR6 hg6 hs6
          have hg6' : W5.grownBy W6 (some nb) := ⟨hg6.os, hg6.tape, hg6.output, hg6.size, hg6.block⟩
          obtain ⟨hy2, hJ5, hM5, hK5⟩ := HP5.out
          have hJ6 : J (pre ++ (ys ++ ys2)) V2 W6 := by
            rw [← List.append_assoc]
            exact HST.out _ _ W5 W6 (some nb) hJ5 hg6' (fun r e => by cases e; exact ⟨hV2n, by have := HWN.out; omega⟩)
          have hR6' : RowAt W6 nb 112 #[.int .i64 ((a + 1 + szsL (As ++ [T]) : Nat) : Int), .int .i64 (a : Int), .int .i64 ((m : Int) + (t.lams : Int))] := by
            have e : ((a + 1 + szsL (As ++ [T]) : Nat) : Int) = (p : Int) + (T.sz : Int) := by rw [szsL_app, HPP.out]; simp only [szsL]; omega
            rw [e]
            simpa using hR6
          obtain ⟨hJr, hMr, hKr, hRr, hVr', hTr, hbr⟩ := HS.out
          have hM6 : MoreB U V2 W := hMr.trans hKr.1 hM5
          have hkW5 : KeepsB U W W5 := hKr.trans hMr hK5
          have hs56 := hg6'.size
          have hK6 : KeepsB U W W6 := ⟨Nat.le_trans hkW5.1 hs56, fun x hx hu => by
            rw [hg6'.block x (Nat.lt_of_lt_of_le hx hkW5.1) (by intro e; injection e with e; have := HWN.out; omega)]
            exact hkW5.2 x hx hu⟩
          have hk56 : ∀ x, x < W.heap.size → ¬ V' x → W6.heap[x]? = wr.heap[x]? := fun x hx hv => by
            rw [hg6'.block x (Nat.lt_of_lt_of_le hx hkW5.1) (by intro e; injection e with e; have := HWN.out; omega)]
            exact hK5.2 x (Nat.lt_of_lt_of_le hx hKr.1) hv
          have HEND : Hid ((ys ++ ys2).map Prod.fst = ⟨a, up, m, t⟩ :: kidsW (As ++ [T]) (a + 1) a (m + t.lams)) := by
            unfold Hid
            rw [List.map_append, HYS.out, hy2, kidsW_app, HPP.out]
            simp [kidsW]
          have HAL : Hid (J (pre ++ (ys ++ ys2)) V2 W6 ∧ MoreB U V2 W ∧ KeepsB U W W6 ∧ RowAt W6 nb 112 #[.int .i64 ((a + 1 + szsL (As ++ [T]) : Nat) : Int), .int .i64 (a : Int), .int .i64 ((m : Int) + (t.lams : Int))] ∧ ¬ V2 nb ∧ TrIn W6 (fun z => ¬ V2 z ∧ z < W.heap.size) t b ∧ W6.heap[b]? = W4.heap[b]?) := by
            refine ⟨hJ6, hM6, hK6, hR6', hV2n, TrIn.keep (Nat.le_trans hK5.1 hs56) (fun x hx hl => hk56 x hx.2 hx.1) (fun x hx hl => ⟨fun hv => ?_, hx.2⟩) hTr, (hk56 b hTr.inP.2 hTr.inP.1).trans hbr⟩
            rcases hM5 x hv with h | h
            · exact hx.1 h
            · omega
          clear hJ6 hM6 hk56 hK6 hkW5 hs56 hR6' hJr hMr hKr hRr hTr hbr hy2 hJ5 hM5 hK5 hg6 hg6' hs6 hR6 HP5 HR5 HRR HCALL
          rename_i K9 hK9
          gi_wp2
          refine hK9 _ _ ?_
          gi_wp2
          go_roundw
          case rel => exact ⟨As ++ [T], Bs', ys ++ ys2, V2, by rw [List.length_append, ← HJL.out]; go_num, by rw [HKK.out]; simp, HEND, HAL⟩
          case measure => simp [idxV]; omega
        · gi_wp2
          go_ret
          exact .inr ⟨rfl, hF⟩
      · have HE : Hid (Bs = []) := by
          unfold Hid
          have h1 := congrArg List.length HKK.out
          rw [List.length_append, ← HN.out, ← HJL.out] at h1
          exact List.length_eq_zero_iff.1 (by omega)
        gi_wp2
        go_ret
        refine .inl ⟨rfl, ys, V', ?_, HS.out.1, HS.out.2.1, HS.out.2.2.1⟩
        rw [HYS.out, Lm.walk_kids, HKK.out, HE.out, List.append_nil]
  · gi_wp2
    go_ret
    exact .inr ⟨rfl, hF⟩

theorem walkFrom_all : ∀ N, WalkC N := by
  intro N
  induction N using Nat.strongRecOn with
  | _ N IH => exact walkFrom_step N IH

/-- What the iterator of a tree needs, and what it gives. -/
def WNeed (bx : Nat) (t : Lm) (b : Nat) (U : Nat → Prop) (W : World) : Prop := TrIn W (fun z => ¬ U z) t b ∧ W.cell? ⟨bx, 0, none⟩ = some (.pointer (some ⟨b, 0, none⟩))
def WNx (t : Lm) (pre : List (Spot × Nat)) (x : Spot × Nat) (V : Nat → Prop) (W : World) : Prop := (∃ post, t.walk 0 (-1) 0 = pre.map Prod.fst ++ x.1 :: post) ∧ TrIn W (fun z => ¬ V z) x.1.t x.2
set_option maxRecDepth 100000 in
set_option maxHeartbeats 4000000 in
theorem walk_seq (bx : Nat) (t : Lm) (b : Nat) (ht : t.sz ≤ 1000000) :
    SeqOwn Tryd.prog 79 #[.pointer (some ⟨bx, 0, none⟩)] encS (WNeed bx t b) (WNx t) (fun ys => ys.map Prod.fst = t.walk 0 (-1) 0) := by
  intro l J JF W U hlt hst hY hN hJ
  have HC := hideT' ((callsIn_wide (n := 2)).2 (callsIn_wide.1 (walkFrom_all t.sz t (Nat.le_refl _) b 0 (-1) 0 l W.heap.size J JF W U [] (t.walk 0 (-1) 0) [] hlt (Nat.le_refl _) hst hY hN.1 hJ (by simp) (by omega) (by omega))))
  have hc := hN.2
  have hz := zero_spot.1
  clear hlt hst hY hN hJ
  refine callsIn_of_wp Tryd.func79 rfl trivial ?_ rfl
  simp only [Tryd.ntmps79, List.size_toArray, List.length_cons, List.length_nil, Nat.reduceAdd, Nat.reduceSub, Array.replicate_succ, Array.replicate_zero, List.push_toArray, List.append_toArray, List.nil_append, List.cons_append]
  gi_wp2
  refine ⟨trivial, HC.out.mono ?_⟩
  rintro e W' hpost
  rcases hpost with ⟨rfl, ys, V, hy, hJ, _, _⟩ | ⟨rfl, hF⟩
  · have HH : Hid (ys.map Prod.fst = t.walk 0 (-1) 0 ∧ J ys V W') := ⟨hy, hJ⟩
    clear hy hJ
    gi_wp2
    go_end0
    exact ⟨⟨_, rfl⟩, .inl ⟨ys, V, HH.out.1, HH.out.2⟩⟩
  · gi_wp2
    go_end0
    exact ⟨⟨_, rfl⟩, .inr hF⟩
theorem walk_any (b : Nat) (w : World) :
    Calls Tryd.prog 62 #[.pointer (some ⟨b, 0, none⟩)] w fun e w' => e = .returned (.func (.func 79) #[] #[.pointer (some ⟨w.heap.size, 0, none⟩)]) ∧ w' = w.alloc (.cells #[.pointer (some ⟨b, 0, none⟩)] 54) := by
  go_enter Tryd.func62, Tryd.ntmps62
  go_wp2
  go_ret
  exact ⟨rfl, rfl⟩
end Go.Proofs.YtgolfbjfopoeeaaDoor
