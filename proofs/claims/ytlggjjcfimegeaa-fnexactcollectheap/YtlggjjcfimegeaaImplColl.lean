/-
  What impl.CollectHeap and impl.MinorCollect answer.
-/
import Derived.Test.YtlggjjcfimegeaaImplCollect
namespace Go.Proofs.Ytlggjjcfimegeaa
open Go.RowKit Go.Shelf BL
set_option linter.unusedVariables false

/-- A row is copied by an append to nothing, as an operation. -/
theorem copy_wp (w : World) {o : Oper} {a : Act} {K : Act → World → Prop} {Q : Exit → Act → World → Prop} (d : Option Tmp) (hd : o.dst = d) (s x : Operand) (t : TypeId)
    (ho : o.op = .call { callee := .builtin .append, args := #[s, x], argTypes := #[t, t] })
    (B : Nat) (e : TypeId) (i : TypeInfo) (z : Value) (size bytes : Nat) (ht : Try.prog.underlying t = some (.slice e)) (hi : Try.prog.info? e = some i) (hz : i.zero = some z)
    (hsize : i.size = size) (hby : i.bytes = bytes) (hzs : z.cells.size = size) (hsz : 0 < size) (hs : a.eval s = .slice none 0 0)
    (ad : Addr) (m c : Nat) (news : List Value) (hx : a.eval x = .slice (some ad) m c) (hl : news.length = m * size) (hnews : ∀ j u, news[j]? = some u → w.cell? (ad.add j) = some u) (h1 : ∀ u ∈ news, u.oneCell' = true)
    (h63 : m ≤ maxLen) (hbytes : m * bytes ≤ 140737488355328) (hB : B ≤ w.heap.size)
    (h : ∀ v' w', w'.ownsRow B e size v' m news → w.grownBy w' none → K (a.put d v') w') : o.wp Try.prog a w K Q := by
  subst hd
  obtain ⟨v', w', hr, h2, h3, h4⟩ := run_append_own (P := Try.prog) w B t o.type e i z size bytes ht hi hz hsize hby hzs hsz (.slice none 0 0) 0 [] (World.ownsRow_nil _ _ _ _) ad m c news hl hnews h1 (by omega) (by simpa using hbytes) hB
  unfold Oper.wp execOp
  simp only [ho, resolve, invoke, builtin, Sem.run_bind, Sem.run_pure, Result.andThen_ok, List.map_toArray, List.map_cons, List.map_nil, hs, hx, hr]
  rw [Nat.zero_add, List.nil_append] at h2
  exact h v' w' h2 h3

theorem row_cells {X : Type} {w : World} {b : Nat} {T : TypeId} {f : X → List Value} {l : List X} (h : RecAt w b T f l) : ∀ j u, (l.flatMap f)[j]? = some u → w.cell? ((⟨b, 0, none⟩ : Addr).add j) = some u := fun j u hu => by
  rw [Addr.add_mid, Nat.zero_add, cell_of_row w b _ _ _ _ h, List.getElem?_toArray]; exact hu
theorem rec_one {X : Type} (f : X → List Value) (h1 : ∀ x, ∀ u ∈ f x, u.oneCell' = true) (l : List X) : ∀ u ∈ l.flatMap f, u.oneCell' = true := fun u hu => by
  obtain ⟨x, _, hx⟩ := List.mem_flatMap.1 hu
  exact h1 x u hx

set_option maxRecDepth 100000 in
set_option maxHeartbeats 4000000 in
theorem copied_any (m : Hp) (hb b c : Nat) (w : World) (hR : RowAt w hb 30 (hpC b c m)) (hM : HpAt w b c m) (hl1 : m.cells.length ≤ 200) (hl2 : m.roots.length ≤ 60) :
    Calls Try.prog 36 #[.pointer (some ⟨hb, 0, none⟩)] w fun e w' => (∃ v1 v2, e = .returned (.agg #[.int .i64 m.old, v1, v2]) ∧ OwnR w' w.heap.size v1 44 cellL 4 m.cells ∧ OwnR w' w.heap.size v2 3 intL 1 m.roots) ∧ Below w.heap.size w w' := by
  have hz := zero_hp.1
  have hbl := RowAt.lt hR
  have l1 := hM.1.lt
  have l2 := hM.2.lt
  obtain ⟨i1, hi1, hz10, hz11, hz12⟩ := info_parts info_cell
  obtain ⟨i2, hi2, hz20, hz21, hz22⟩ := info_parts info_int
  have HR := hideT' hR
  have HM := hideT' hM
  clear hR hM
  go_enter Try.func36, Try.ntmps36
  go_wp2_with fail
  obtain ⟨w0, hw0⟩ : ∃ w0, w0 = w.alloc (.cells #[.int .i64 0, .slice none 0 0, .slice none 0 0] 30) := ⟨_, rfl⟩
  have hB0 : Below w.heap.size w w0 := by rw [hw0]; exact (Below.refl _ _).alloc (Nat.le_refl _) _
  have hs0 : w0.heap.size = w.heap.size + 1 := by rw [hw0]; simp
  have hX0 : RowAt w0 w.heap.size 30 #[.int .i64 0, .slice none 0 0, .slice none 0 0] := by rw [hw0]; exact RowAt.new _ _ _
  rw [← hw0]
  have hS : RowAt w0.drew hb 30 (hpC b c m) ∧ HpAt w0.drew b c m := ⟨HR.out.below hB0.drew hbl, HM.out.below hB0.drew l1 l2⟩
  refine held_begin (fun w' => RowAt w' hb 30 (hpC b c m) ∧ HpAt w' b c m) (by kernel_rfl) ?_
  refine held_val 0 (some 3) rfl rfl (by kernel_rfl) (by kernel_rfl) (by kernel_rfl) noPanic_put rfl (.pointer (some ⟨hb, 0, none⟩)) (fun _ => by go_simp) hS ?_
  simp only [Act.put, List.setIfInBounds_toArray, List.set_cons_zero, List.set_cons_succ]
  refine held_val 1 (some 4) rfl rfl (by kernel_rfl) (by kernel_rfl) (by kernel_rfl) noPanic_put rfl (.pointer (some ⟨hb, 0, none⟩)) (fun _ => by go_simp) hS ?_
  simp only [Act.put, List.setIfInBounds_toArray, List.set_cons_zero, List.set_cons_succ]
  refine held_val 2 (some 5) rfl rfl (by kernel_rfl) (by kernel_rfl) (by kernel_rfl) noPanic_put rfl (.pointer (some ⟨hb, 0, none⟩)) (fun _ => by go_simp) hS ?_
  simp only [Act.put, List.setIfInBounds_toArray, List.set_cons_zero, List.set_cons_succ]
  refine held_valS 3 (some 6) rfl rfl (by kernel_rfl) (by kernel_rfl) (by kernel_rfl) noPanic_put rfl (.int .i64 m.old) (fun w' h => run_cell1 (.tmp 5) 3 rfl ⟨hb, 0, none⟩ rfl _ Try.underlying3 rfl (by rw [cell_of_row w' _ _ _ _ _ h.1]; rfl)) hS ?_
  simp only [Act.put, List.setIfInBounds_toArray, List.set_cons_zero, List.set_cons_succ]
  refine held_val 4 (some 7) rfl rfl (by kernel_rfl) (by kernel_rfl) (by kernel_rfl) noPanic_put rfl (.pointer (some ⟨hb, 0, none⟩)) (fun _ => by go_simp) hS ?_
  simp only [Act.put, List.setIfInBounds_toArray, List.set_cons_zero, List.set_cons_succ]
  refine held_val 5 (some 8) rfl rfl (by kernel_rfl) (by kernel_rfl) (by kernel_rfl) noPanic_put rfl (.pointer (some ⟨hb, 0, none⟩)) (fun _ => by go_simp) hS ?_
  simp only [Act.put, List.setIfInBounds_toArray, List.set_cons_zero, List.set_cons_succ]
  refine held_val 6 (some 9) rfl rfl (by kernel_rfl) (by kernel_rfl) (by kernel_rfl) noPanic_put rfl (.pointer (some ⟨hb, 1, none⟩)) (fun _ => by go_simp) hS ?_
  simp only [Act.put, List.setIfInBounds_toArray, List.set_cons_zero, List.set_cons_succ]
  refine held_valS 7 (some 10) rfl rfl (by kernel_rfl) (by kernel_rfl) (by kernel_rfl) noPanic_put rfl (slR b m.cells) (fun w' h => run_cell1 (.tmp 9) 28 rfl ⟨hb, 1, none⟩ rfl _ Try.underlying28 rfl (by rw [cell_of_row w' _ _ _ _ _ h.1]; rfl)) hS ?_
  simp only [Act.put, List.setIfInBounds_toArray, List.set_cons_zero, List.set_cons_succ]
  refine held_val 9 (some 12) rfl rfl (by kernel_rfl) (by kernel_rfl) (by kernel_rfl) noPanic_put rfl (.pointer (some ⟨hb, 0, none⟩)) (fun _ => by go_simp) hS ?_
  simp only [Act.put, List.setIfInBounds_toArray, List.set_cons_zero, List.set_cons_succ]
  refine held_val 10 (some 13) rfl rfl (by kernel_rfl) (by kernel_rfl) (by kernel_rfl) noPanic_put rfl (.pointer (some ⟨hb, 0, none⟩)) (fun _ => by go_simp) hS ?_
  simp only [Act.put, List.setIfInBounds_toArray, List.set_cons_zero, List.set_cons_succ]
  refine held_val 11 (some 14) rfl rfl (by kernel_rfl) (by kernel_rfl) (by kernel_rfl) noPanic_put rfl (.pointer (some ⟨hb, 2, none⟩)) (fun _ => by go_simp) hS ?_
  simp only [Act.put, List.setIfInBounds_toArray, List.set_cons_zero, List.set_cons_succ]
  refine held_valS 12 (some 15) rfl rfl (by kernel_rfl) (by kernel_rfl) (by kernel_rfl) noPanic_put rfl (slR c m.roots) (fun w' h => run_cell1 (.tmp 14) 23 rfl ⟨hb, 2, none⟩ rfl _ Try.underlying23 rfl (by rw [cell_of_row w' _ _ _ _ _ h.1]; rfl)) hS ?_
  simp only [Act.put, List.setIfInBounds_toArray, List.set_cons_zero, List.set_cons_succ]
  refine held_step 8 (by kernel_rfl) rfl rfl fun K8 hK8 => ?_
  refine copy_wp w0.drew (some 11) rfl _ (.tmp 10) 28 rfl w.heap.size 44 i1 (.agg #[.bool false, .int .i64 0, .int .i64 0, .int .i64 0]) 4 32 Try.underlying28 hi1 hz10 hz11 hz12 rfl (by decide) rfl ⟨b, 0, none⟩ m.cells.length m.cells.length (m.cells.flatMap cellL) rfl (rec_len cellL 4 cellL_len _) (row_cells hS.2.1) (rec_one cellL cellL_one _) (by unfold maxLen; omega) (by omega) (by show w.heap.size ≤ w0.heap.size; omega) ?_
  intro v1 w1 hO1 hg1
  obtain ⟨p1, q1, hv1⟩ := own_formX hO1
  subst hv1
  have hB1 : Below w0.heap.size w0 w1 := ⟨hg1.os, hg1.tape, hg1.output, hg1.size, fun k hk => hg1.block k hk (by simp)⟩
  have hS1 : RowAt w1 hb 30 (hpC b c m) ∧ HpAt w1 b c m := ⟨(HR.out.below hB0 hbl).below hB1 (by omega), (HM.out.below hB0 l1 l2).below hB1 (by omega) (by omega)⟩
  have hX1 := hX0.below hB1 (by omega)
  refine hK8.out _ _ hS1 ?_
  simp only [Act.put, List.setIfInBounds_toArray, List.set_cons_zero, List.set_cons_succ]
  refine held_step 13 (by kernel_rfl) rfl rfl fun K13 hK13 => ?_
  refine copy_wp w1 (some 16) rfl _ (.tmp 15) 23 rfl w.heap.size 3 i2 (.int .i64 0) 1 8 Try.underlying23 hi2 hz20 hz21 hz22 rfl (by decide) rfl ⟨c, 0, none⟩ m.roots.length m.roots.length (m.roots.flatMap intL) rfl (by rw [rec_len intL 1 intL_len]) (row_cells hS1.2.2) (rec_one intL intL_one _) (by unfold maxLen; omega) (by omega) (by have := hB1.size; omega) ?_
  intro v2 w2 hO2 hg2
  obtain ⟨p2, q2, hv2⟩ := own_formX hO2
  subst hv2
  have hB2 : Below w1.heap.size w1 w2 := ⟨hg2.os, hg2.tape, hg2.output, hg2.size, fun k hk => hg2.block k hk (by simp)⟩
  have hs1 := hB1.size
  have hs2 := hB2.size
  have hS2 : RowAt w2 hb 30 (hpC b c m) ∧ HpAt w2 b c m := ⟨hS1.1.below hB2 (by omega), hS1.2.below hB2 (by omega) (by omega)⟩
  have hX2 := hX1.below hB2 (by omega)
  refine hK13.out _ _ hS2 ?_
  simp only [Act.put, List.setIfInBounds_toArray, List.set_cons_zero, List.set_cons_succ]
  refine held_val 14 (some 17) rfl rfl (by kernel_rfl) (by kernel_rfl) (by kernel_rfl) noPanic_put rfl (.agg #[.int .i64 m.old, .slice p1 m.cells.length q1, .slice p2 m.roots.length q2]) (fun _ => by go_simp) hS2 ?_
  simp only [Act.put, List.setIfInBounds_toArray, List.set_cons_zero, List.set_cons_succ]
  refine held_step 15 (by kernel_rfl) rfl rfl fun K15 hK15 => ?_
  refine wp_store_row 30 _ _ rfl w.heap.size #[.int .i64 m.old, .slice p1 m.cells.length q1, .slice p2 m.roots.length q2] rfl rfl 30 _ hX2 zero_hp.2 rfl (hp_one _ _ _ _ _ _ _) ?_
  obtain ⟨w3, hw3⟩ : ∃ w3, w3 = w2.setRow w.heap.size #[.int .i64 m.old, .slice p1 m.cells.length q1, .slice p2 m.roots.length q2] := ⟨_, rfl⟩
  have hg3 : w2.grownBy w3 (some w.heap.size) := by rw [hw3]; exact ⟨rfl, rfl, rfl, by simp, fun k _ hne => setRow_other w2 w.heap.size k _ (by intro e; exact hne (by rw [e]))⟩
  have hX3 : RowAt w3 w.heap.size 30 #[.int .i64 m.old, .slice p1 m.cells.length q1, .slice p2 m.roots.length q2] := by rw [hw3]; exact setRow_heap _ _ _ _ _ _ hX2
  rw [← hw3]
  have hM3 : HpAt w3 b c m := ⟨RowAt.grown hS2.2.1 hg3 (by intro e; injection e; omega), RowAt.grown hS2.2.2 hg3 (by intro e; injection e; omega)⟩
  refine hK15.out _ _ ⟨hS2.1.grown hg3 (by intro e; injection e; omega), hM3⟩ ?_
  refine wpAnyH_done (by kernel_rfl) ?_ _
  refine NoPanic.normal ?_
  have hO13 : w3.ownsRow w.heap.size 44 4 (.slice p1 m.cells.length q1) m.cells.length (m.cells.flatMap cellL) := (OwnR.below (l := m.cells) hO1 hB2 (Nat.le_refl _)).kept hg3 (.inr (fun e => own_row_apart (by decide) hO1 hX1 e))
  have hO23 : w3.ownsRow w.heap.size 3 1 (.slice p2 m.roots.length q2) m.roots.length (m.roots.flatMap intL) := hO2.kept hg3 (.inr (fun e => own_row_apart (by decide) hO2 hX2 e))
  have hB3 : Below w.heap.size w w3 := ((hB0.trans (hB1.mono (by omega))).trans (hB2.mono (by omega))).grown hg3 (by omega) (fun k e => by cases e; exact Nat.le_refl _)
  have HF := hideT' (And.intro hO13 (And.intro hO23 hB3))
  clear hw3 hO13 hO23 hB3 hg3 hS hS1 hS2 hX0 hX1 hX2 hO1 hO2 hg1 hg2 hB0 hB1 hB2 hM3
  go_wp2_with fail
  exact bodyPost_ret (v := .agg #[.int .i64 m.old, .slice p1 m.cells.length q1, .slice p2 m.roots.length q2]) (results_cell_row Try.results36 _ _ w.heap.size 30 _ (0, 0) _ rfl hX3 Try.underlying30 rfl zero_hp.2) rfl ⟨⟨_, _, rfl, HF.out.1, HF.out.2.1⟩, HF.out.2.2⟩

theorem res_heap {fn : Func} (hf : fn.results = #[.cell 2 30, .tmp 3]) {b : Nat} {tmps : Array Value} {w : World} {x y z v : Value} (h2 : tmps[2]? = some (.pointer (some ⟨b, 0, none⟩))) (h3 : tmps[3]? = some v) (hR : RowAt w b 30 #[x, y, z]) :
    (results fn tmps).run Try.prog w = .ok (.tuple #[.agg #[x, y, z], v]) w := by
  have c0 : w.cell? ⟨b, 0, none⟩ = some x := by rw [cell_of_row w _ _ _ _ _ hR]; rfl
  have c1 : w.cell? ⟨b, 1, none⟩ = some y := by rw [cell_of_row w _ _ _ _ _ hR]; rfl
  have c2 : w.cell? ⟨b, 2, none⟩ = some z := by rw [cell_of_row w _ _ _ _ _ hR]; rfl
  simp [results, hf, go_sem, h2, h3, c0, c1, c2]

/-- What both answer of a heap that stays with old cells. -/
def CollC (m : Hp) (old : Nat) (w : World) (e : Ending) (w' : World) : Prop :=
  (∃ m' v1 v2, e = .returned (.tuple #[.agg #[.int .i64 m'.old, v1, v2], .bool (hpOk m)]) ∧ (m' = if hpOk m then moveM m (reachM m old) else ⟨0, [], []⟩) ∧ OwnR w' w.heap.size v1 44 cellL 4 m'.cells ∧ OwnR w' w.heap.size v2 3 intL 1 m'.roots) ∧ Below w.heap.size w w'

set_option maxRecDepth 100000 in
set_option maxHeartbeats 4000000 in
theorem implCollectHeap_any (m : Hp) (b c : Nat) (w : World) (hs : HpSmall m 1048576) (hM : HpAt w b c m) :
    Calls Try.prog 19 #[.agg (hpC b c m)] w fun e w' => CollC m 0 w e w' := by
  have hz := zero_hp.1
  have l1 := hM.1.lt
  have l2 := hM.2.lt
  obtain ⟨wA, hwA⟩ : ∃ wA, wA = (w.alloc (.cells #[.int .i64 m.old, slR b m.cells, slR c m.roots] 30)).alloc (.cells #[.int .i64 0, .slice none 0 0, .slice none 0 0] 30) := ⟨_, rfl⟩
  have hBA : Below w.heap.size w wA := by rw [hwA]; exact ((Below.refl _ _).alloc (Nat.le_refl _) _).alloc (by simp) _
  have hsA : wA.heap.size = w.heap.size + 2 := by rw [hwA]; simp
  have hRA : RowAt wA w.heap.size 30 #[.int .i64 m.old, slR b m.cells, slR c m.roots] := by rw [hwA]; exact RowAt.old (RowAt.new _ _ _) _
  have hXA : RowAt wA (w.heap.size + 1) 30 #[.int .i64 0, .slice none 0 0, .slice none 0 0] := by
    rw [hwA]
    have := RowAt.new (w.alloc (.cells #[.int .i64 m.old, slR b m.cells, slR c m.roots] 30)) 30 #[.int .i64 0, .slice none 0 0, .slice none 0 0]
    rwa [World.size_alloc] at this
  have HG := hideT' (implGoodHeap_any m _ _ wA hs (hM.below hBA l1 l2).rd)
  have HM := hideT' hM
  have HA := hideT' (And.intro hRA (And.intro hXA hBA))
  have HWA := hideT' hwA
  clear hM hRA hXA hBA hwA
  go_enter Try.func19, Try.ntmps19
  go_wp2_with fail
  rw [← HWA.out]
  refine HG.out.mono ?_
  rintro e w1 ⟨rfl, hB1⟩
  have hR1 := HA.out.1.below hB1 (by omega)
  have hX1 := HA.out.2.1.below hB1 (by omega)
  have hBw1 := HA.out.2.2.trans (hB1.mono (by omega))
  have hs1 := hB1.size
  obtain ⟨q, hq⟩ : ∃ q, q = hpOk m := ⟨_, rfl⟩
  rw [← hq]
  have HQ := hideT' hq
  clear hq hB1
  cases q with
  | false =>
    have HX := hideT' (And.intro hX1 hBw1)
    clear hR1 hBw1
    go_wp2_with (refine store_3 rfl 30 _ _ rfl rfl zero_hp.2 (w.heap.size + 1) #[.int .i64 0, .slice none 0 0, .slice none 0 0] rfl (hp_one _ _ _ _ _ _ _) rfl rfl _ rfl hX1 ?_; intro w2 hR2 hg2 hs2)
    refine bodyPost_ret (v := .tuple #[.agg #[.int .i64 0, .slice none 0 0, .slice none 0 0], .bool false]) (res_heap Try.results19 rfl rfl hR2) rfl ⟨⟨⟨0, [], []⟩, .slice none 0 0, .slice none 0 0, by rw [← HQ.out], by rw [← HQ.out]; rfl, World.ownsRow_nil _ _ _ _, World.ownsRow_nil _ _ _ _⟩, HX.out.2.grown hg2 HX.out.2.size (fun k e => by cases e; omega)⟩
  | true =>
  have hok : hpOk m = true := HQ.out.symm
  obtain ⟨hl1, hl2, hold, _, _⟩ := hpOk_all hok
  have HOK := hideT' hok
  have HC := hideT' (copied_any m w.heap.size b c w1 hR1 (HM.out.below hBw1 l1 l2) hl1 hl2)
  have HX1 := hideT' (And.intro hX1 hBw1)
  clear hR1 hX1 hBw1 hok
  go_wp2_with fail
  refine HC.out.mono ?_
  rintro e w2 ⟨⟨v1, v2, rfl, hO1, hO2⟩, hB2⟩
  obtain ⟨p1, q1, hv1⟩ := own_formX hO1
  obtain ⟨p2, q2, hv2⟩ := own_formX hO2
  subst hv1 hv2
  have hs2 := hB2.size
  have hBn : Below w2.heap.size w2 (w2.alloc (.cells #[.int .i64 m.old, .slice p1 m.cells.length q1, .slice p2 m.roots.length q2] 30)) := (Below.refl _ _).alloc (Nat.le_refl _) _
  have hX2 := (HX1.out.1.below hB2 (by omega)).below hBn (by omega)
  have hBw2 := (HX1.out.2.trans (hB2.mono (by omega))).trans (hBn.mono (by omega))
  have hRn := RowAt.new w2 30 #[.int .i64 m.old, .slice p1 m.cells.length q1, .slice p2 m.roots.length q2]
  have hcc := (collect_any m HOK.out 0 (by omega) w2.heap.size 30 w1.heap.size [] _ _ (w2.alloc (.cells #[.int .i64 m.old, .slice p1 m.cells.length q1, .slice p2 m.roots.length q2] 30)) (by decide) (by decide) hRn (OwnR.below (l := m.cells) hO1 hBn (Nat.le_refl _)) (OwnR.below (l := m.roots) hO2 hBn (Nat.le_refl _)))
  have HCC := hideT' hcc
  have HX2 := hideT' (And.intro hX2 hBw2)
  have HLT : Hid (∀ k, hpBlocks w2.heap.size (.slice p1 m.cells.length q1) (.slice p2 m.roots.length q2) k → w1.heap.size ≤ k) := fun k hk => by
    rcases hk with h | h | h
    · omega
    · exact (hO1.lt k h).1
    · exact (hO2.lt k h).1
  clear hcc hX2 hBw2 hO1 hO2 hB2 hBn hRn
  go_wp2_with fail
  refine HCC.out.mono ?_
  rintro e w3 ⟨rfl, ⟨v1', hR3, hO13, hO23, _⟩, hP3⟩
  obtain ⟨p3, q3, hv3⟩ := own_formX hO13
  subst hv3
  have hs3 := hP3.size
  simp only [World.size_alloc] at hs3
  have hB3 : Below w1.heap.size (w2.alloc (.cells #[.int .i64 m.old, .slice p1 m.cells.length q1, .slice p2 m.roots.length q2] 30)) w3 := hP3.belowB (Below.refl _ _) (by simp; omega) HLT.out
  have hX3 := HX2.out.1.below hB3 (by omega)
  have hBw3 := HX2.out.2.trans (hB3.mono (by omega))
  have d0 : w3.cell? ⟨w2.heap.size, 0, none⟩ = some (.int .i64 (moveM m (reachM m 0)).old) := by rw [cell_of_row w3 _ _ _ _ _ hR3]; rfl
  have d1 : w3.cell? ⟨w2.heap.size, 1, none⟩ = some (.slice p3 (moveM m (reachM m 0)).cells.length q3) := by rw [cell_of_row w3 _ _ _ _ _ hR3]; rfl
  have d2 : w3.cell? ⟨w2.heap.size, 2, none⟩ = some (.slice p2 m.roots.length q2) := by rw [cell_of_row w3 _ _ _ _ _ hR3]; rfl
  have HO := hideT' (And.intro hO13 (And.intro hO23 hBw3))
  obtain ⟨m', hm'⟩ : ∃ m', m' = moveM m (reachM m 0) := ⟨_, rfl⟩
  rw [← hm'] at d0 d1 HO
  have HM' := hideT' hm'
  clear hO13 hO23 hBw3 hR3 hP3 hB3 hm'
  go_wp2_with (refine store_3 rfl 30 _ _ rfl rfl zero_hp.2 (w.heap.size + 1) #[.int .i64 m'.old, .slice p3 m'.cells.length q3, .slice p2 m.roots.length q2] rfl (hp_one _ _ _ _ _ _ _) rfl rfl _ rfl hX3 ?_; intro w4 hR4 hg4 hs4)
  obtain ⟨hO13, hO23, hBw3⟩ := HO.out
  refine bodyPost_ret (v := .tuple #[.agg #[.int .i64 m'.old, .slice p3 m'.cells.length q3, .slice p2 m.roots.length q2], .bool true]) (res_heap Try.results19 rfl rfl hR4) rfl ⟨⟨m', .slice p3 m'.cells.length q3, .slice p2 m.roots.length q2, by rw [← HQ.out], by rw [← HQ.out, HM'.out]; rfl, ?_, ?_⟩, hBw3.grown hg4 hBw3.size (fun k e => by cases e; omega)⟩
  · exact own_baseX (hO13.kept hg4 (.inr (fun e => by have := (hO13.lt _ e).1; omega))) (by omega)
  · exact own_baseX (hO23.kept hg4 (.inr (fun e => by have := (hO23.lt _ e).1; omega))) (by omega)

set_option maxRecDepth 100000 in
set_option maxHeartbeats 4000000 in
theorem implMinorCollect_any (m : Hp) (b c : Nat) (w : World) (hs : HpSmall m 1048576) (hM : HpAt w b c m) :
    Calls Try.prog 22 #[.agg (hpC b c m)] w fun e w' => CollC m m.old.toNat w e w' := by
  have hz := zero_hp.1
  have l1 := hM.1.lt
  have l2 := hM.2.lt
  obtain ⟨wA, hwA⟩ : ∃ wA, wA = (w.alloc (.cells #[.int .i64 m.old, slR b m.cells, slR c m.roots] 30)).alloc (.cells #[.int .i64 0, .slice none 0 0, .slice none 0 0] 30) := ⟨_, rfl⟩
  have hBA : Below w.heap.size w wA := by rw [hwA]; exact ((Below.refl _ _).alloc (Nat.le_refl _) _).alloc (by simp) _
  have hsA : wA.heap.size = w.heap.size + 2 := by rw [hwA]; simp
  have hRA : RowAt wA w.heap.size 30 #[.int .i64 m.old, slR b m.cells, slR c m.roots] := by rw [hwA]; exact RowAt.old (RowAt.new _ _ _) _
  have hXA : RowAt wA (w.heap.size + 1) 30 #[.int .i64 0, .slice none 0 0, .slice none 0 0] := by
    rw [hwA]
    have := RowAt.new (w.alloc (.cells #[.int .i64 m.old, slR b m.cells, slR c m.roots] 30)) 30 #[.int .i64 0, .slice none 0 0, .slice none 0 0]
    rwa [World.size_alloc] at this
  have HG := hideT' (implGoodHeap_any m _ _ wA hs (hM.below hBA l1 l2).rd)
  have HM := hideT' hM
  have HA := hideT' (And.intro hRA (And.intro hXA hBA))
  have HWA := hideT' hwA
  clear hM hRA hXA hBA hwA
  go_enter Try.func22, Try.ntmps22
  go_wp2_with fail
  rw [← HWA.out]
  refine HG.out.mono ?_
  rintro e w1 ⟨rfl, hB1⟩
  have hR1 := HA.out.1.below hB1 (by omega)
  have hX1 := HA.out.2.1.below hB1 (by omega)
  have hBw1 := HA.out.2.2.trans (hB1.mono (by omega))
  have hs1 := hB1.size
  obtain ⟨q, hq⟩ : ∃ q, q = hpOk m := ⟨_, rfl⟩
  rw [← hq]
  have HQ := hideT' hq
  clear hq hB1
  cases q with
  | false =>
    have HX := hideT' (And.intro hX1 hBw1)
    clear hR1 hBw1
    go_wp2_with (refine store_3 rfl 30 _ _ rfl rfl zero_hp.2 (w.heap.size + 1) #[.int .i64 0, .slice none 0 0, .slice none 0 0] rfl (hp_one _ _ _ _ _ _ _) rfl rfl _ rfl hX1 ?_; intro w2 hR2 hg2 hs2)
    refine bodyPost_ret (v := .tuple #[.agg #[.int .i64 0, .slice none 0 0, .slice none 0 0], .bool false]) (res_heap Try.results22 rfl rfl hR2) rfl ⟨⟨⟨0, [], []⟩, .slice none 0 0, .slice none 0 0, by rw [← HQ.out], by rw [← HQ.out]; rfl, World.ownsRow_nil _ _ _ _, World.ownsRow_nil _ _ _ _⟩, HX.out.2.grown hg2 HX.out.2.size (fun k e => by cases e; omega)⟩
  | true =>
  have hok : hpOk m = true := HQ.out.symm
  obtain ⟨hl1, hl2, hold, _, _⟩ := hpOk_all hok
  have HOK := hideT' hok
  have HC := hideT' (copied_any m w.heap.size b c w1 hR1 (HM.out.below hBw1 l1 l2) hl1 hl2)
  have HX1 := hideT' (And.intro hX1 hBw1)
  clear hR1 hX1 hBw1 hok
  go_wp2_with fail
  refine HC.out.mono ?_
  rintro e w2 ⟨⟨v1, v2, rfl, hO1, hO2⟩, hB2⟩
  obtain ⟨p1, q1, hv1⟩ := own_formX hO1
  obtain ⟨p2, q2, hv2⟩ := own_formX hO2
  subst hv1 hv2
  have hs2 := hB2.size
  have hBn : Below w2.heap.size w2 (w2.alloc (.cells #[.int .i64 m.old, .slice p1 m.cells.length q1, .slice p2 m.roots.length q2] 30)) := (Below.refl _ _).alloc (Nat.le_refl _) _
  have hX2 := (HX1.out.1.below hB2 (by omega)).below hBn (by omega)
  have hBw2 := (HX1.out.2.trans (hB2.mono (by omega))).trans (hBn.mono (by omega))
  have hRn := RowAt.new w2 30 #[.int .i64 m.old, .slice p1 m.cells.length q1, .slice p2 m.roots.length q2]
  obtain ⟨od, hod⟩ : ∃ od : Nat, m.old = (od : Int) := ⟨m.old.toNat, by omega⟩
  have hcc := (collect_any m HOK.out od (by omega) w2.heap.size 30 w1.heap.size [] _ _ (w2.alloc (.cells #[.int .i64 m.old, .slice p1 m.cells.length q1, .slice p2 m.roots.length q2] 30)) (by decide) (by decide) hRn (OwnR.below (l := m.cells) hO1 hBn (Nat.le_refl _)) (OwnR.below (l := m.roots) hO2 hBn (Nat.le_refl _)))
  rw [← hod] at hcc
  have hodn : m.old.toNat = od := by omega
  have HODN := hideT' hodn
  clear hod hodn
  have HCC := hideT' hcc
  have HX2 := hideT' (And.intro hX2 hBw2)
  have HLT : Hid (∀ k, hpBlocks w2.heap.size (.slice p1 m.cells.length q1) (.slice p2 m.roots.length q2) k → w1.heap.size ≤ k) := fun k hk => by
    rcases hk with h | h | h
    · omega
    · exact (hO1.lt k h).1
    · exact (hO2.lt k h).1
  clear hcc hX2 hBw2 hO1 hO2 hB2 hBn hRn
  go_wp2_with fail
  refine HCC.out.mono ?_
  rintro e w3 ⟨rfl, ⟨v1', hR3, hO13, hO23, _⟩, hP3⟩
  rw [← HODN.out] at hR3 hO13 hO23
  obtain ⟨p3, q3, hv3⟩ := own_formX hO13
  subst hv3
  have hs3 := hP3.size
  simp only [World.size_alloc] at hs3
  have hB3 : Below w1.heap.size (w2.alloc (.cells #[.int .i64 m.old, .slice p1 m.cells.length q1, .slice p2 m.roots.length q2] 30)) w3 := hP3.belowB (Below.refl _ _) (by simp; omega) HLT.out
  have hX3 := HX2.out.1.below hB3 (by omega)
  have hBw3 := HX2.out.2.trans (hB3.mono (by omega))
  have d0 : w3.cell? ⟨w2.heap.size, 0, none⟩ = some (.int .i64 (moveM m (reachM m m.old.toNat)).old) := by rw [cell_of_row w3 _ _ _ _ _ hR3]; rfl
  have d1 : w3.cell? ⟨w2.heap.size, 1, none⟩ = some (.slice p3 (moveM m (reachM m m.old.toNat)).cells.length q3) := by rw [cell_of_row w3 _ _ _ _ _ hR3]; rfl
  have d2 : w3.cell? ⟨w2.heap.size, 2, none⟩ = some (.slice p2 m.roots.length q2) := by rw [cell_of_row w3 _ _ _ _ _ hR3]; rfl
  have HO := hideT' (And.intro hO13 (And.intro hO23 hBw3))
  obtain ⟨m', hm'⟩ : ∃ m', m' = moveM m (reachM m m.old.toNat) := ⟨_, rfl⟩
  rw [← hm'] at d0 d1 HO
  have HM' := hideT' hm'
  clear hO13 hO23 hBw3 hR3 hP3 hB3 hm'
  go_wp2_with (refine store_3 rfl 30 _ _ rfl rfl zero_hp.2 (w.heap.size + 1) #[.int .i64 m'.old, .slice p3 m'.cells.length q3, .slice p2 m.roots.length q2] rfl (hp_one _ _ _ _ _ _ _) rfl rfl _ rfl hX3 ?_; intro w4 hR4 hg4 hs4)
  obtain ⟨hO13, hO23, hBw3⟩ := HO.out
  refine bodyPost_ret (v := .tuple #[.agg #[.int .i64 m'.old, .slice p3 m'.cells.length q3, .slice p2 m.roots.length q2], .bool true]) (res_heap Try.results22 rfl rfl hR4) rfl ⟨⟨m', .slice p3 m'.cells.length q3, .slice p2 m.roots.length q2, by rw [← HQ.out], by rw [← HQ.out, HM'.out]; rfl, ?_, ?_⟩, hBw3.grown hg4 hBw3.size (fun k e => by cases e; omega)⟩
  · exact own_baseX (hO13.kept hg4 (.inr (fun e => by have := (hO13.lt _ e).1; omega))) (by omega)
  · exact own_baseX (hO23.kept hg4 (.inr (fun e => by have := (hO23.lt _ e).1; omega))) (by omega)
end Go.Proofs.Ytlggjjcfimegeaa
