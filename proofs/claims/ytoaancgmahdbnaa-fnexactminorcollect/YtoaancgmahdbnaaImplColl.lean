/-
  What impl.CollectHeap and impl.MinorCollect answer.
-/
import Derived.Test.YtoaancgmahdbnaaImplCopied
import Derived.Test.YtoaancgmahdbnaaHeapMark
namespace Go.Proofs.Ytoaancgmahdbnaa
open Go.RowKit Go.Shelf BL
set_option linter.unusedVariables false
attribute [local go_sem] Oper.semAt_some

theorem sndOk_of {m : Hp} (h : hpOk m = true) : sndOk m = true := by
  rw [hpOk_snd, Bool.and_eq_true] at h; exact h.1
theorem moveTo_stab (cs : List Cl) (ms : List Bool) {k j : Nat} (hkj : k ≤ j) {a : Nat} (ha : a < k) : (moveTo cs ms j).1.getD a default = (moveTo cs ms k).1.getD a default := by
  induction j with
  | zero => omega
  | succ j ih =>
    by_cases h : k = j + 1
    · rw [h]
    · have := ih (by omega)
      rw [← this, moveTo]
      split
      · simp only [List.getD]; rw [List.getElem?_set_ne (by omega)]
      · rfl
theorem moveTo_out (cs : List Cl) (ms : List Bool) (hcs : clsOk 0 cs = true) {k : Nat} (hk : k ≤ cs.length) : (moveTo cs ms k).2 = (idxTo ms k).map (fun i => movC (moveTo cs ms cs.length).1 (cs.getD i default)) := by
  induction k with
  | zero => rfl
  | succ k ih =>
    rw [moveTo, idxTo_succ]
    cases h : bAt ms k with
    | false => simpa [h] using ih (by omega)
    | true =>
      simp only [if_true]
      rw [ih (by omega), List.map_append, List.map_singleton]
      congr 2
      unfold movC
      split
      · rfl
      · rename_i hl
        obtain ⟨_, a, b, ea, eb, ha, hb⟩ := pair_at hcs (show k < cs.length by omega) (by simpa using hl)
        rw [ea, eb]
        simp only [Int.toNat_natCast]
        rw [moveTo_stab cs ms (show k ≤ cs.length by omega) ha, moveTo_stab cs ms (show k ≤ cs.length by omega) hb]
theorem movL_kepL (cs : List Cl) (l : List Nat) : (movL cs l).1 = (kepL cs l).1 := by
  generalize hn : l.length = n
  induction n generalizing l with
  | zero => rw [List.length_eq_zero_iff.1 hn]; rfl
  | succ n ih =>
    obtain ⟨l', x, rfl, hl⟩ := snoc_of l hn
    rw [movL_snoc, kepL_snoc, ih l' hl, (movL_len cs l').2, (kepL_len cs l').2]
/-- Of a good heap the names may be changed as the cells are moved, or in the end. -/
theorem moveM_keepM (m : Hp) (ms : List Bool) (hok : hpOk m = true) : moveM m ms = keepM m ms := by
  obtain ⟨_, _, _, hcl, _⟩ := hpOk_all hok
  have h1 : (moveTo m.cells ms m.cells.length).1 = (kepL m.cells (idxTo ms m.cells.length)).1 := by rw [movL_idx, movL_kepL]
  have h2 : (moveTo m.cells ms m.cells.length).2 = (kepL m.cells (idxTo ms m.cells.length)).2.map (movC (kepL m.cells (idxTo ms m.cells.length)).1) := by
    rw [moveTo_out m.cells ms hcl (Nat.le_refl _), h1, kepL_map, List.map_map]; rfl
  unfold moveM keepM
  rw [h1, h2, List.length_map]

set_option maxRecDepth 100000 in
set_option maxHeartbeats 4000000 in
theorem collect_any (m : Hp) (hok : hpOk m = true) (old : Nat) (hold : old ≤ m.cells.length) (hb T B : Nat) (rest : List Value) (v1 v2 : Value) (w : World) (hT1 : T ≠ 59) (hT2 : T ≠ 3) (hR : RowAt w hb T (.int .i64 m.old :: v1 :: v2 :: rest).toArray)
    (h1 : w.ownsRow B 59 4 v1 m.cells.length (m.cells.flatMap cellL)) (h2 : w.ownsRow B 3 1 v2 m.roots.length (m.roots.flatMap intL)) :
    Calls Try.prog 71 #[.pointer (some ⟨hb, 0, none⟩), .int .i64 (old : Int)] w fun e w' => e = .returned (.tuple #[]) ∧ (∃ v1', RowAt w' hb T (.int .i64 (moveM m (reachM m old)).old :: v1' :: v2 :: rest).toArray ∧ OwnR w' B v1' 59 cellL 4 (moveM m (reachM m old)).cells ∧ OwnR w' B v2 3 intL 1 (moveM m (reachM m old)).roots ∧ v1'.ownBlock = v1.ownBlock) ∧ OnlyP (hpBlocks hb v1 v2) w w' := by
  have hM : HpRd w v1 v2 m := ⟨OwnR.inR (l := m.cells) h1 cellL_len, OwnR.inR (l := m.roots) h2 intL_len⟩
  have hbl := RowAt.lt hR
  have HC := hideT' (reached_any m hok old hold hb v1 v2 w (by rw [cell_of_row _ _ _ _ _ _ hR]; rfl) (by rw [cell_of_row _ _ _ _ _ _ hR]; rfl) hM)
  have hml : (reachM m old).length = m.cells.length := reachM_len hold
  have HK : Hid (∀ (mb : Nat) (w1 : World), Below w.heap.size w w1 → w.heap.size ≤ mb → RecAt w1 mb 4 boolL (reachM m old) → Calls Try.prog 82 #[.pointer (some ⟨hb, 0, none⟩), .slice (some ⟨mb, 0, none⟩) (reachM m old).length (reachM m old).length] w1 fun e w' => e = .returned (.tuple #[]) ∧ (∃ v1', RowAt w' hb T (.int .i64 (keepM m (reachM m old)).old :: v1' :: v2 :: rest).toArray ∧ OwnR w' B v1' 59 cellL 4 (keepM m (reachM m old)).cells ∧ OwnR w' B v2 3 intL 1 (keepM m (reachM m old)).roots ∧ v1'.ownBlock = v1.ownBlock) ∧ OnlyP (hpBlocks hb v1 v2) w1 w') := by
    intro mb w1 hB1 hmb hD
    have := keep_any m (sndOk_of hok) (reachM m old) mb 0 (reachM m old).length hml hb T B rest v1 v2 w1 hT1 hT2 (hR.below hB1 hbl) (OwnR.below (l := m.cells) h1 hB1 (Nat.le_refl _)) (OwnR.below (l := m.roots) h2 hB1 (Nat.le_refl _)) (MarksAt.of_row hD) (RecAt.lt hD) (fun e => by have := (h1.lt mb e).2; omega)
    rw [hml] at this ⊢
    exact this
  have HMM := hideT' (moveM_keepM m (reachM m old) hok)
  rw [HMM.out]
  clear hM h1 h2 hR hml
  go_enter Try.func71, Try.ntmps71
  go_wp2_with fail
  refine HC.out.mono ?_
  rintro e w1 ⟨⟨mb, rfl, hmb, hD⟩, hB1⟩
  rw [slR]
  have HK1 := hideT' (HK.out mb w1 hB1 hmb hD)
  have HB1 := hideT' hB1
  clear hD hB1
  go_wp2_with fail
  refine HK1.out.mono ?_
  rintro e w2 ⟨rfl, hout, hP⟩
  have HO := hideT' hout
  have HP : Hid (OnlyP (hpBlocks hb v1 v2) w w2) := by
    have hb1 := HB1.out
    refine ⟨hP.os.trans hb1.os, hP.tape.trans hb1.tape, hP.output.trans hb1.output, Nat.le_trans hb1.size hP.size, fun k hk hS => ?_⟩
    rw [hP.block k (Nat.lt_of_lt_of_le hk hb1.size) hS, hb1.block k hk]
  clear hout hP
  go_wp2
  go_end0
  exact ⟨rfl, HO.out, HP.out⟩

theorem res_heap {fn : Func} (hf : fn.results = #[.cell 2 48, .tmp 3]) {b : Nat} {tmps : Array Value} {w : World} {x y z v : Value} (h2 : tmps[2]? = some (.pointer (some ⟨b, 0, none⟩))) (h3 : tmps[3]? = some v) (hR : RowAt w b 48 #[x, y, z]) :
    (results fn tmps).run Try.prog w = .ok (.tuple #[.agg #[x, y, z], v]) w := by
  have c0 : w.cell? ⟨b, 0, none⟩ = some x := by rw [cell_of_row w _ _ _ _ _ hR]; rfl
  have c1 : w.cell? ⟨b, 1, none⟩ = some y := by rw [cell_of_row w _ _ _ _ _ hR]; rfl
  have c2 : w.cell? ⟨b, 2, none⟩ = some z := by rw [cell_of_row w _ _ _ _ _ hR]; rfl
  simp [results, hf, go_sem, h2, h3, c0, c1, c2]

/-- What both answer of a heap that stays with old cells. -/
def CollC (m : Hp) (old : Nat) (w : World) (e : Ending) (w' : World) : Prop :=
  (∃ m' v1 v2, e = .returned (.tuple #[.agg #[.int .i64 m'.old, v1, v2], .bool (hpOk m)]) ∧ (m' = if hpOk m then moveM m (reachM m old) else ⟨0, [], []⟩) ∧ OwnR w' w.heap.size v1 59 cellL 4 m'.cells ∧ OwnR w' w.heap.size v2 3 intL 1 m'.roots) ∧ Below w.heap.size w w'

set_option maxRecDepth 100000 in
set_option maxHeartbeats 4000000 in
theorem implCollectHeap_any (m : Hp) (b c : Nat) (w : World) (hs : HpSmall m 1048576) (hM : HpAt w b c m) :
    Calls Try.prog 39 #[.agg (hpC b c m)] w fun e w' => CollC m 0 w e w' := by
  have hz := zero_hp.1
  have l1 := hM.1.lt
  have l2 := hM.2.lt
  obtain ⟨wA, hwA⟩ : ∃ wA, wA = (w.alloc (.cells #[.int .i64 m.old, slR b m.cells, slR c m.roots] 48)).alloc (.cells #[.int .i64 0, .slice none 0 0, .slice none 0 0] 48) := ⟨_, rfl⟩
  have hBA : Below w.heap.size w wA := by rw [hwA]; exact ((Below.refl _ _).alloc (Nat.le_refl _) _).alloc (by simp) _
  have hsA : wA.heap.size = w.heap.size + 2 := by rw [hwA]; simp
  have hRA : RowAt wA w.heap.size 48 #[.int .i64 m.old, slR b m.cells, slR c m.roots] := by rw [hwA]; exact RowAt.old (RowAt.new _ _ _) _
  have hXA : RowAt wA (w.heap.size + 1) 48 #[.int .i64 0, .slice none 0 0, .slice none 0 0] := by
    rw [hwA]
    have := RowAt.new (w.alloc (.cells #[.int .i64 m.old, slR b m.cells, slR c m.roots] 48)) 48 #[.int .i64 0, .slice none 0 0, .slice none 0 0]
    rwa [World.size_alloc] at this
  have HG := hideT' (implGoodHeap_any m _ _ wA hs (hM.below hBA l1 l2).rd)
  have HM := hideT' hM
  have HA := hideT' (And.intro hRA (And.intro hXA hBA))
  have HWA := hideT' hwA
  clear hM hRA hXA hBA hwA
  go_enter Try.func39, Try.ntmps39
  go_wp2_with fail
  rw [← HWA.out]
  refine HG.out.mono ?_
  rintro e w1 ⟨rfl, hB1⟩
  have hR1 := HA.out.1.below hB1 (by omega)
  have hX1 := HA.out.2.1.below hB1 (by omega)
  have hBw1 := HA.out.2.2.trans (hB1.mono (by omega))
  have hs1 := hB1.size
  obtain ⟨q, hq⟩ : ∃ q, q = hpOk m := ⟨_, rfl⟩
  rw [← hq]
  have HQ := hideT' hq
  clear hq hB1
  cases q with
  | false =>
    have HX := hideT' (And.intro hX1 hBw1)
    clear hR1 hBw1
    go_wp2_with (refine store_3 rfl 48 _ _ rfl rfl zero_hp.2 (w.heap.size + 1) #[.int .i64 0, .slice none 0 0, .slice none 0 0] rfl (hp_one _ _ _ _ _ _ _) rfl rfl _ rfl hX1 ?_; intro w2 hR2 hg2 hs2)
    refine bodyPost_ret (v := .tuple #[.agg #[.int .i64 0, .slice none 0 0, .slice none 0 0], .bool false]) (res_heap Try.results39 rfl rfl hR2) rfl ⟨⟨⟨0, [], []⟩, .slice none 0 0, .slice none 0 0, by rw [← HQ.out], by rw [← HQ.out]; rfl, World.ownsRow_nil _ _ _ _, World.ownsRow_nil _ _ _ _⟩, HX.out.2.grown hg2 HX.out.2.size (fun k e => by cases e; omega)⟩
  | true =>
  have hok : hpOk m = true := HQ.out.symm
  obtain ⟨hl1, hl2, hold, _, _⟩ := hpOk_all hok
  have HOK := hideT' hok
  have HC := hideT' (copied_any m w.heap.size _ _ w1 (by rw [cell_of_row _ _ _ _ _ _ hR1]; rfl) (by rw [cell_of_row _ _ _ _ _ _ hR1]; rfl) (by rw [cell_of_row _ _ _ _ _ _ hR1]; rfl) (HM.out.below hBw1 l1 l2).rd hl1 hl2)
  have HX1 := hideT' (And.intro hX1 hBw1)
  clear hR1 hX1 hBw1 hok
  go_wp2_with fail
  refine HC.out.mono ?_
  rintro e w2 ⟨⟨v1, v2, rfl, hO1, hO2⟩, hB2⟩
  obtain ⟨p1, q1, hv1⟩ := own_formX hO1
  obtain ⟨p2, q2, hv2⟩ := own_formX hO2
  subst hv1 hv2
  have hs2 := hB2.size
  have hBn : Below w2.heap.size w2 (w2.alloc (.cells #[.int .i64 m.old, .slice p1 m.cells.length q1, .slice p2 m.roots.length q2] 48)) := (Below.refl _ _).alloc (Nat.le_refl _) _
  have hX2 := (HX1.out.1.below hB2 (by omega)).below hBn (by omega)
  have hBw2 := (HX1.out.2.trans (hB2.mono (by omega))).trans (hBn.mono (by omega))
  have hRn := RowAt.new w2 48 #[.int .i64 m.old, .slice p1 m.cells.length q1, .slice p2 m.roots.length q2]
  have hcc := (collect_any m HOK.out 0 (by omega) w2.heap.size 48 w1.heap.size [] _ _ (w2.alloc (.cells #[.int .i64 m.old, .slice p1 m.cells.length q1, .slice p2 m.roots.length q2] 48)) (by decide) (by decide) hRn (OwnR.below (l := m.cells) hO1 hBn (Nat.le_refl _)) (OwnR.below (l := m.roots) hO2 hBn (Nat.le_refl _)))
  have HCC := hideT' hcc
  have HX2 := hideT' (And.intro hX2 hBw2)
  have HLT : Hid (∀ k, hpBlocks w2.heap.size (.slice p1 m.cells.length q1) (.slice p2 m.roots.length q2) k → w1.heap.size ≤ k) := fun k hk => by
    rcases hk with h | h | h
    · omega
    · exact (hO1.lt k h).1
    · exact (hO2.lt k h).1
  clear hcc hX2 hBw2 hO1 hO2 hB2 hBn hRn
  go_wp2_with fail
  refine HCC.out.mono ?_
  rintro e w3 ⟨rfl, ⟨v1', hR3, hO13, hO23, _⟩, hP3⟩
  obtain ⟨p3, q3, hv3⟩ := own_formX hO13
  subst hv3
  have hs3 := hP3.size
  simp only [World.size_alloc] at hs3
  have hB3 : Below w1.heap.size (w2.alloc (.cells #[.int .i64 m.old, .slice p1 m.cells.length q1, .slice p2 m.roots.length q2] 48)) w3 := hP3.belowB (Below.refl _ _) (by simp; omega) HLT.out
  have hX3 := HX2.out.1.below hB3 (by omega)
  have hBw3 := HX2.out.2.trans (hB3.mono (by omega))
  have d0 : w3.cell? ⟨w2.heap.size, 0, none⟩ = some (.int .i64 (moveM m (reachM m 0)).old) := by rw [cell_of_row w3 _ _ _ _ _ hR3]; rfl
  have d1 : w3.cell? ⟨w2.heap.size, 1, none⟩ = some (.slice p3 (moveM m (reachM m 0)).cells.length q3) := by rw [cell_of_row w3 _ _ _ _ _ hR3]; rfl
  have d2 : w3.cell? ⟨w2.heap.size, 2, none⟩ = some (.slice p2 m.roots.length q2) := by rw [cell_of_row w3 _ _ _ _ _ hR3]; rfl
  have HO := hideT' (And.intro hO13 (And.intro hO23 hBw3))
  obtain ⟨m', hm'⟩ : ∃ m', m' = moveM m (reachM m 0) := ⟨_, rfl⟩
  rw [← hm'] at d0 d1 HO
  have HM' := hideT' hm'
  clear hO13 hO23 hBw3 hR3 hP3 hB3 hm'
  go_wp2_with (refine store_3 rfl 48 _ _ rfl rfl zero_hp.2 (w.heap.size + 1) #[.int .i64 m'.old, .slice p3 m'.cells.length q3, .slice p2 m.roots.length q2] rfl (hp_one _ _ _ _ _ _ _) rfl rfl _ rfl hX3 ?_; intro w4 hR4 hg4 hs4)
  obtain ⟨hO13, hO23, hBw3⟩ := HO.out
  refine bodyPost_ret (v := .tuple #[.agg #[.int .i64 m'.old, .slice p3 m'.cells.length q3, .slice p2 m.roots.length q2], .bool true]) (res_heap Try.results39 rfl rfl hR4) rfl ⟨⟨m', .slice p3 m'.cells.length q3, .slice p2 m.roots.length q2, by rw [← HQ.out], by rw [← HQ.out, HM'.out]; rfl, ?_, ?_⟩, hBw3.grown hg4 hBw3.size (fun k e => by cases e; omega)⟩
  · exact own_baseX (hO13.kept hg4 (.inr (fun e => by have := (hO13.lt _ e).1; omega))) (by omega)
  · exact own_baseX (hO23.kept hg4 (.inr (fun e => by have := (hO23.lt _ e).1; omega))) (by omega)

set_option maxRecDepth 100000 in
set_option maxHeartbeats 4000000 in
theorem implMinorCollect_any (m : Hp) (b c : Nat) (w : World) (hs : HpSmall m 1048576) (hM : HpAt w b c m) :
    Calls Try.prog 42 #[.agg (hpC b c m)] w fun e w' => CollC m m.old.toNat w e w' := by
  have hz := zero_hp.1
  have l1 := hM.1.lt
  have l2 := hM.2.lt
  obtain ⟨wA, hwA⟩ : ∃ wA, wA = (w.alloc (.cells #[.int .i64 m.old, slR b m.cells, slR c m.roots] 48)).alloc (.cells #[.int .i64 0, .slice none 0 0, .slice none 0 0] 48) := ⟨_, rfl⟩
  have hBA : Below w.heap.size w wA := by rw [hwA]; exact ((Below.refl _ _).alloc (Nat.le_refl _) _).alloc (by simp) _
  have hsA : wA.heap.size = w.heap.size + 2 := by rw [hwA]; simp
  have hRA : RowAt wA w.heap.size 48 #[.int .i64 m.old, slR b m.cells, slR c m.roots] := by rw [hwA]; exact RowAt.old (RowAt.new _ _ _) _
  have hXA : RowAt wA (w.heap.size + 1) 48 #[.int .i64 0, .slice none 0 0, .slice none 0 0] := by
    rw [hwA]
    have := RowAt.new (w.alloc (.cells #[.int .i64 m.old, slR b m.cells, slR c m.roots] 48)) 48 #[.int .i64 0, .slice none 0 0, .slice none 0 0]
    rwa [World.size_alloc] at this
  have HG := hideT' (implGoodHeap_any m _ _ wA hs (hM.below hBA l1 l2).rd)
  have HM := hideT' hM
  have HA := hideT' (And.intro hRA (And.intro hXA hBA))
  have HWA := hideT' hwA
  clear hM hRA hXA hBA hwA
  go_enter Try.func42, Try.ntmps42
  go_wp2_with fail
  rw [← HWA.out]
  refine HG.out.mono ?_
  rintro e w1 ⟨rfl, hB1⟩
  have hR1 := HA.out.1.below hB1 (by omega)
  have hX1 := HA.out.2.1.below hB1 (by omega)
  have hBw1 := HA.out.2.2.trans (hB1.mono (by omega))
  have hs1 := hB1.size
  obtain ⟨q, hq⟩ : ∃ q, q = hpOk m := ⟨_, rfl⟩
  rw [← hq]
  have HQ := hideT' hq
  clear hq hB1
  cases q with
  | false =>
    have HX := hideT' (And.intro hX1 hBw1)
    clear hR1 hBw1
    go_wp2_with (refine store_3 rfl 48 _ _ rfl rfl zero_hp.2 (w.heap.size + 1) #[.int .i64 0, .slice none 0 0, .slice none 0 0] rfl (hp_one _ _ _ _ _ _ _) rfl rfl _ rfl hX1 ?_; intro w2 hR2 hg2 hs2)
    refine bodyPost_ret (v := .tuple #[.agg #[.int .i64 0, .slice none 0 0, .slice none 0 0], .bool false]) (res_heap Try.results42 rfl rfl hR2) rfl ⟨⟨⟨0, [], []⟩, .slice none 0 0, .slice none 0 0, by rw [← HQ.out], by rw [← HQ.out]; rfl, World.ownsRow_nil _ _ _ _, World.ownsRow_nil _ _ _ _⟩, HX.out.2.grown hg2 HX.out.2.size (fun k e => by cases e; omega)⟩
  | true =>
  have hok : hpOk m = true := HQ.out.symm
  obtain ⟨hl1, hl2, hold, _, _⟩ := hpOk_all hok
  have HOK := hideT' hok
  have HC := hideT' (copied_any m w.heap.size _ _ w1 (by rw [cell_of_row _ _ _ _ _ _ hR1]; rfl) (by rw [cell_of_row _ _ _ _ _ _ hR1]; rfl) (by rw [cell_of_row _ _ _ _ _ _ hR1]; rfl) (HM.out.below hBw1 l1 l2).rd hl1 hl2)
  have HX1 := hideT' (And.intro hX1 hBw1)
  clear hR1 hX1 hBw1 hok
  go_wp2_with fail
  refine HC.out.mono ?_
  rintro e w2 ⟨⟨v1, v2, rfl, hO1, hO2⟩, hB2⟩
  obtain ⟨p1, q1, hv1⟩ := own_formX hO1
  obtain ⟨p2, q2, hv2⟩ := own_formX hO2
  subst hv1 hv2
  have hs2 := hB2.size
  have hBn : Below w2.heap.size w2 (w2.alloc (.cells #[.int .i64 m.old, .slice p1 m.cells.length q1, .slice p2 m.roots.length q2] 48)) := (Below.refl _ _).alloc (Nat.le_refl _) _
  have hX2 := (HX1.out.1.below hB2 (by omega)).below hBn (by omega)
  have hBw2 := (HX1.out.2.trans (hB2.mono (by omega))).trans (hBn.mono (by omega))
  have hRn := RowAt.new w2 48 #[.int .i64 m.old, .slice p1 m.cells.length q1, .slice p2 m.roots.length q2]
  obtain ⟨od, hod⟩ : ∃ od : Nat, m.old = (od : Int) := ⟨m.old.toNat, by omega⟩
  have hcc := (collect_any m HOK.out od (by omega) w2.heap.size 48 w1.heap.size [] _ _ (w2.alloc (.cells #[.int .i64 m.old, .slice p1 m.cells.length q1, .slice p2 m.roots.length q2] 48)) (by decide) (by decide) hRn (OwnR.below (l := m.cells) hO1 hBn (Nat.le_refl _)) (OwnR.below (l := m.roots) hO2 hBn (Nat.le_refl _)))
  rw [← hod] at hcc
  have hodn : m.old.toNat = od := by omega
  have HODN := hideT' hodn
  clear hod hodn
  have HCC := hideT' hcc
  have HX2 := hideT' (And.intro hX2 hBw2)
  have HLT : Hid (∀ k, hpBlocks w2.heap.size (.slice p1 m.cells.length q1) (.slice p2 m.roots.length q2) k → w1.heap.size ≤ k) := fun k hk => by
    rcases hk with h | h | h
    · omega
    · exact (hO1.lt k h).1
    · exact (hO2.lt k h).1
  clear hcc hX2 hBw2 hO1 hO2 hB2 hBn hRn
  go_wp2_with fail
  refine HCC.out.mono ?_
  rintro e w3 ⟨rfl, ⟨v1', hR3, hO13, hO23, _⟩, hP3⟩
  rw [← HODN.out] at hR3 hO13 hO23
  obtain ⟨p3, q3, hv3⟩ := own_formX hO13
  subst hv3
  have hs3 := hP3.size
  simp only [World.size_alloc] at hs3
  have hB3 : Below w1.heap.size (w2.alloc (.cells #[.int .i64 m.old, .slice p1 m.cells.length q1, .slice p2 m.roots.length q2] 48)) w3 := hP3.belowB (Below.refl _ _) (by simp; omega) HLT.out
  have hX3 := HX2.out.1.below hB3 (by omega)
  have hBw3 := HX2.out.2.trans (hB3.mono (by omega))
  have d0 : w3.cell? ⟨w2.heap.size, 0, none⟩ = some (.int .i64 (moveM m (reachM m m.old.toNat)).old) := by rw [cell_of_row w3 _ _ _ _ _ hR3]; rfl
  have d1 : w3.cell? ⟨w2.heap.size, 1, none⟩ = some (.slice p3 (moveM m (reachM m m.old.toNat)).cells.length q3) := by rw [cell_of_row w3 _ _ _ _ _ hR3]; rfl
  have d2 : w3.cell? ⟨w2.heap.size, 2, none⟩ = some (.slice p2 m.roots.length q2) := by rw [cell_of_row w3 _ _ _ _ _ hR3]; rfl
  have HO := hideT' (And.intro hO13 (And.intro hO23 hBw3))
  obtain ⟨m', hm'⟩ : ∃ m', m' = moveM m (reachM m m.old.toNat) := ⟨_, rfl⟩
  rw [← hm'] at d0 d1 HO
  have HM' := hideT' hm'
  clear hO13 hO23 hBw3 hR3 hP3 hB3 hm'
  go_wp2_with (refine store_3 rfl 48 _ _ rfl rfl zero_hp.2 (w.heap.size + 1) #[.int .i64 m'.old, .slice p3 m'.cells.length q3, .slice p2 m.roots.length q2] rfl (hp_one _ _ _ _ _ _ _) rfl rfl _ rfl hX3 ?_; intro w4 hR4 hg4 hs4)
  obtain ⟨hO13, hO23, hBw3⟩ := HO.out
  refine bodyPost_ret (v := .tuple #[.agg #[.int .i64 m'.old, .slice p3 m'.cells.length q3, .slice p2 m.roots.length q2], .bool true]) (res_heap Try.results42 rfl rfl hR4) rfl ⟨⟨m', .slice p3 m'.cells.length q3, .slice p2 m.roots.length q2, by rw [← HQ.out], by rw [← HQ.out, HM'.out]; rfl, ?_, ?_⟩, hBw3.grown hg4 hBw3.size (fun k e => by cases e; omega)⟩
  · exact own_baseX (hO13.kept hg4 (.inr (fun e => by have := (hO13.lt _ e).1; omega))) (by omega)
  · exact own_baseX (hO23.kept hg4 (.inr (fun e => by have := (hO23.lt _ e).1; omega))) (by omega)
end Go.Proofs.Ytoaancgmahdbnaa
