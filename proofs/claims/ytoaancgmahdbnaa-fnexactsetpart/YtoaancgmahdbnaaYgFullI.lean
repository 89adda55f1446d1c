/-
  What impl.FullCollect and impl.YoungCollect answer.
-/
import Derived.Test.YtoaancgmahdbnaaYgYoung
import Derived.Test.YtoaancgmahdbnaaYgOut
namespace Go.Proofs.Ytoaancgmahdbnaa
open Go.RowKit Go.Shelf BL
set_option linter.unusedVariables false
attribute [local go_sem] Oper.semAt_some

theorem res_young {fn : Func} (hf : fn.results = #[.cell 2 30, .tmp 3]) {b : Nat} {tmps : Array Value} {w : World} {x y z u v : Value} (h2 : tmps[2]? = some (.pointer (some ⟨b, 0, none⟩))) (h3 : tmps[3]? = some v) (hR : RowAt w b 30 #[x, y, z, u]) :
    (results fn tmps).run Try.prog w = .ok (.tuple #[.agg #[x, y, z, u], v]) w := by
  have c0 : w.cell? ⟨b, 0, none⟩ = some x := by rw [cell_of_row w _ _ _ _ _ hR]; rfl
  have c1 : w.cell? ⟨b, 1, none⟩ = some y := by rw [cell_of_row w _ _ _ _ _ hR]; rfl
  have c2 : w.cell? ⟨b, 2, none⟩ = some z := by rw [cell_of_row w _ _ _ _ _ hR]; rfl
  have c3 : w.cell? ⟨b, 3, none⟩ = some u := by rw [cell_of_row w _ _ _ _ _ hR]; rfl
  simp [results, hf, go_sem, h2, h3, c0, c1, c2, c3]
/-- What is left by a collecting. -/
def collOut (m : Yg) (old : Nat) : Yg := if ygOk m then ⟨keepM m.h (liveM m.h (nmk m.noted) old), []⟩ else ⟨⟨0, [], []⟩, []⟩
/-- What both answer. -/
def CollY (m : Yg) (old : Nat) (w : World) (e : Ending) (w' : World) : Prop := YgAns (collOut m old) (ygOk m) w e w'
theorem collOut_no {m : Yg} (old : Nat) (h : ygOk m = false) : collOut m old = ⟨⟨0, [], []⟩, []⟩ := by unfold collOut; rw [h]; rfl
theorem collOut_yes {m : Yg} (old : Nat) (h : ygOk m = true) : collOut m old = ⟨keepM m.h (liveM m.h (nmk m.noted) old), []⟩ := by unfold collOut; rw [h]; rfl
theorem keepM_old (m : Hp) (ms : List Bool) : (keepM m ms).old = ((keepM m ms).cells.length : Int) := by unfold keepM; simp
theorem keepM_len (m : Hp) (ms : List Bool) : (keepM m ms).cells.length ≤ m.cells.length := by
  unfold keepM
  rw [List.length_map, (kepL_len _ _).2]; exact idxTo_len _ _
theorem idxI_none (n k : Nat) : idxI (List.replicate n false) k = [] := by
  unfold idxI
  rw [List.map_eq_nil_iff]
  unfold idxTo
  rw [List.filter_eq_nil_iff]
  intro i _
  unfold bAt
  simp only [List.getD, List.getElem?_replicate]
  split <;> decide

set_option maxRecDepth 100000 in
set_option maxHeartbeats 4000000 in
theorem implFullCollect_any (m : Yg) (b c d : Nat) (w : World) (hs : YgSmall m 1048576) (hM : YgAt w b c d m) :
    Calls Try.prog 24 #[.agg (ygC b c d m)] w fun e w' => CollY m 0 w e w' := by
  have hz := zero_yg.1
  obtain ⟨l1, l2, l3⟩ := hM.lt
  obtain ⟨wA, hwA⟩ : ∃ wA, wA = (w.alloc (.cells (ygC b c d m) 30)).alloc (.cells #[.int .i64 0, .slice none 0 0, .slice none 0 0, .slice none 0 0] 30) := ⟨_, rfl⟩
  have hBA : Below w.heap.size w wA := by rw [hwA]; exact ((Below.refl _ _).alloc (Nat.le_refl _) _).alloc (by simp) _
  have hsA : wA.heap.size = w.heap.size + 2 := by rw [hwA]; simp
  have hXA : RowAt wA (w.heap.size + 1) 30 #[.int .i64 0, .slice none 0 0, .slice none 0 0, .slice none 0 0] := by
    rw [hwA]
    have := RowAt.new (w.alloc (.cells (ygC b c d m) 30)) 30 #[.int .i64 0, .slice none 0 0, .slice none 0 0, .slice none 0 0]
    rwa [World.size_alloc] at this
  have HG := hideT' (writtenOf_any m b c d wA hs (hM.below hBA l1 l2 l3))
  have HA := hideT' (And.intro hXA hBA)
  have HWA := hideT' hwA
  clear hM hXA hBA hwA hs l1 l2 l3
  go_enter Try.func24, Try.ntmps24
  go_wp2_with fail
  rw [← HWA.out]
  refine HG.out.mono ?_
  rintro e w1 ⟨hans, hB1⟩
  have hX1 := HA.out.1.below hB1 (by omega)
  have hBw1 := HA.out.2.trans (hB1.mono (by omega))
  have hs1 := hB1.size
  rcases hans with ⟨hq, rfl⟩ | ⟨hq, hb, v1, v2, rfl, hW⟩
  · have HQ := hideT' hq
    have HX := hideT' hBw1
    clear hq hBw1 hB1
    go_wp2_with (refine store_4 rfl 30 _ _ rfl rfl zero_yg.2 (w.heap.size + 1) #[.int .i64 0, .slice none 0 0, .slice none 0 0, .slice none 0 0] rfl (yg_one _ _ _ _ _ _ _ _ _ _) rfl rfl _ rfl hX1 ?_; intro w2 hR2 hg2 hs2)
    refine bodyPost_ret (v := .tuple #[.agg #[.int .i64 0, .slice none 0 0, .slice none 0 0, .slice none 0 0], .bool false]) (res_young Try.results24 rfl rfl hR2) rfl ⟨⟨.slice none 0 0, .slice none 0 0, .slice none 0 0, by rw [collOut_no _ HQ.out, HQ.out], by rw [collOut_no _ HQ.out]; exact YgO.nil _ _ _⟩, HX.out.grown hg2 HX.out.size (fun k e => by cases e; omega)⟩
  · have HQ := hideT' hq
    have hsnd := ygOk_snd hq
    obtain ⟨hl1, hl2, hold, _, _⟩ := sndOk_all hsnd
    have HC := hideT' (collectLive_any m.h (nmk m.noted) hsnd (nmk_len _) 0 (Nat.zero_le _) wA.heap.size hb v1 v2 w1 hW)
    have HX1 := hideT' (And.intro hX1 hBw1)
    have HWL : Hid (∀ k, hpBlocks hb v1 v2 k → wA.heap.size ≤ k) := hpB_slice hW.2.2.2 hW.2.1 hW.2.2.1
    clear hq hsnd hX1 hBw1 hB1 hW hold
    go_wp2_with fail
    refine HC.out.mono ?_
    rintro e w2 ⟨rfl, ⟨v1', hW2, _⟩, hP2⟩
    have hs2 := hP2.size
    have hB2 : Below wA.heap.size w1 w2 := hP2.belowB (Below.refl _ _) hs1 HWL.out
    have hX2 := HX1.out.1.below hB2 (by omega)
    have hBw2 := HX1.out.2.trans (hB2.mono (by omega))
    have HWT := hideT' hW2
    have hkl := keepM_len m.h (liveM m.h (nmk m.noted) 0)
    have hko := keepM_old m.h (liveM m.h (nmk m.noted) 0)
    have HY := hideT' (young_any (keepM m.h (liveM m.h (nmk m.noted) 0)) (List.replicate 200 false) (by rw [List.length_replicate]) (keepM m.h (liveM m.h (nmk m.noted) 0)).cells.length hko (Nat.le_refl _) (by omega) wA.heap.size hb v1' v2 w2 hW2)
    have HX2 := hideT' (And.intro hX2 hBw2)
    clear hP2 hB2 hW2 hX2 hBw2 hkl hko
    go_wp2_with fail
    refine HY.out.mono ?_
    rintro e w3 ⟨⟨v, rfl, hown⟩, hB3⟩
    obtain ⟨K, hK⟩ : ∃ K, K = keepM m.h (liveM m.h (nmk m.noted) 0) := ⟨_, rfl⟩
    rw [← hK] at hown HWT ⊢
    have HK := hideT' hK
    have hnil : idxI ((List.replicate 200 false).take K.cells.length) K.cells.length = [] := by rw [List.take_replicate]; exact idxI_none _ _
    rw [hnil] at hown
    obtain ⟨o4, c4, e4⟩ := own_formX hown
    subst e4
    have hX3 := HX2.out.1.below hB3 (by omega)
    have hBw3 := HX2.out.2.trans (hB3.mono (by omega))
    have hs3 := hB3.size
    have ho1 : OwnR w3 wA.heap.size v1' 59 cellL 4 K.cells := OwnR.below (l := K.cells) HWT.out.2.1 hB3 (Nat.le_refl _)
    have ho2 : OwnR w3 wA.heap.size v2 3 intL 1 K.roots := OwnR.below (l := K.roots) HWT.out.2.2.1 hB3 (Nat.le_refl _)
    obtain ⟨p1, q1, e5⟩ := own_formX ho1
    obtain ⟨p2, q2, e6⟩ := own_formX ho2
    subst e5 e6
    have HOUT : Hid (collOut m 0 = ⟨K, []⟩) := by unfold Hid; rw [collOut_yes _ HQ.out, HK.out]
    have HAP : Hid (∀ g, (Value.slice p2 K.roots.length q2).ownBlock = some g → (Value.slice o4 ([] : List Int).length c4).ownBlock ≠ some g) := fun g e e' => by have := (HWT.out.2.2.1.lt g e).2; have := (hown.lt g e').1; omega
    have HO := hideT' (And.intro ho1 (And.intro ho2 (And.intro hown hBw3)))
    clear ho1 ho2 hown hBw3 hB3 hK hnil
    go_wp2_with (refine store_4 rfl 30 _ _ rfl rfl zero_yg.2 (w.heap.size + 1) #[.int .i64 K.old, .slice p1 K.cells.length q1, .slice p2 K.roots.length q2, .slice o4 ([] : List Int).length c4] rfl (yg_one _ _ _ _ _ _ _ _ _ _) rfl rfl _ rfl hX3 ?_; intro w4 hR4 hg4 hs4)
    obtain ⟨hO1, hO2, hO3, hBw3⟩ := HO.out
    refine bodyPost_ret (v := .tuple #[.agg #[.int .i64 K.old, .slice p1 K.cells.length q1, .slice p2 K.roots.length q2, .slice o4 ([] : List Int).length c4], .bool true]) (res_young Try.results24 rfl rfl hR4) rfl ⟨⟨.slice p1 K.cells.length q1, .slice p2 K.roots.length q2, .slice o4 ([] : List Int).length c4, by rw [HOUT.out, HQ.out], ?_⟩, hBw3.grown hg4 hBw3.size (fun k e => by cases e; omega)⟩
    rw [HOUT.out]
    refine ⟨⟨⟨?_, ?_⟩, ?_⟩, HAP.out⟩
    · exact own_baseX (hO1.kept hg4 (.inr (fun e => by have := (hO1.lt _ e).1; omega))) (by omega)
    · exact own_baseX (hO2.kept hg4 (.inr (fun e => by have := (hO2.lt _ e).1; omega))) (by omega)
    · exact own_baseX (hO3.kept hg4 (.inr (fun e => by have := (hO3.lt _ e).1; omega))) (by omega)

set_option maxRecDepth 100000 in
set_option maxHeartbeats 4000000 in
theorem implYoungCollect_any (m : Yg) (b c d : Nat) (w : World) (hs : YgSmall m 1048576) (hM : YgAt w b c d m) :
    Calls Try.prog 27 #[.agg (ygC b c d m)] w fun e w' => CollY m m.h.old.toNat w e w' := by
  have hz := zero_yg.1
  obtain ⟨l1, l2, l3⟩ := hM.lt
  obtain ⟨wA, hwA⟩ : ∃ wA, wA = (w.alloc (.cells (ygC b c d m) 30)).alloc (.cells #[.int .i64 0, .slice none 0 0, .slice none 0 0, .slice none 0 0] 30) := ⟨_, rfl⟩
  have hBA : Below w.heap.size w wA := by rw [hwA]; exact ((Below.refl _ _).alloc (Nat.le_refl _) _).alloc (by simp) _
  have hsA : wA.heap.size = w.heap.size + 2 := by rw [hwA]; simp
  have hXA : RowAt wA (w.heap.size + 1) 30 #[.int .i64 0, .slice none 0 0, .slice none 0 0, .slice none 0 0] := by
    rw [hwA]
    have := RowAt.new (w.alloc (.cells (ygC b c d m) 30)) 30 #[.int .i64 0, .slice none 0 0, .slice none 0 0, .slice none 0 0]
    rwa [World.size_alloc] at this
  have HG := hideT' (writtenOf_any m b c d wA hs (hM.below hBA l1 l2 l3))
  have HA := hideT' (And.intro hXA hBA)
  have HWA := hideT' hwA
  clear hM hXA hBA hwA hs l1 l2 l3
  go_enter Try.func27, Try.ntmps27
  go_wp2_with fail
  rw [← HWA.out]
  refine HG.out.mono ?_
  rintro e w1 ⟨hans, hB1⟩
  have hX1 := HA.out.1.below hB1 (by omega)
  have hBw1 := HA.out.2.trans (hB1.mono (by omega))
  have hs1 := hB1.size
  rcases hans with ⟨hq, rfl⟩ | ⟨hq, hb, v1, v2, rfl, hW⟩
  · have HQ := hideT' hq
    have HX := hideT' hBw1
    clear hq hBw1 hB1
    go_wp2_with (refine store_4 rfl 30 _ _ rfl rfl zero_yg.2 (w.heap.size + 1) #[.int .i64 0, .slice none 0 0, .slice none 0 0, .slice none 0 0] rfl (yg_one _ _ _ _ _ _ _ _ _ _) rfl rfl _ rfl hX1 ?_; intro w2 hR2 hg2 hs2)
    refine bodyPost_ret (v := .tuple #[.agg #[.int .i64 0, .slice none 0 0, .slice none 0 0, .slice none 0 0], .bool false]) (res_young Try.results27 rfl rfl hR2) rfl ⟨⟨.slice none 0 0, .slice none 0 0, .slice none 0 0, by rw [collOut_no _ HQ.out, HQ.out], by rw [collOut_no _ HQ.out]; exact YgO.nil _ _ _⟩, HX.out.grown hg2 HX.out.size (fun k e => by cases e; omega)⟩
  · have HQ := hideT' hq
    have hsnd := ygOk_snd hq
    obtain ⟨hl1, hl2, hold, _, _⟩ := sndOk_all hsnd
    obtain ⟨od, hod⟩ : ∃ od : Nat, m.h.old = (od : Int) := ⟨m.h.old.toNat, by omega⟩
    have HOD : Hid (m.h.old.toNat = od) := by unfold Hid; omega
    have HC := hideT' (collectLive_any m.h (nmk m.noted) hsnd (nmk_len _) od (by omega) wA.heap.size hb v1 v2 w1 hW)
    have HX1 := hideT' (And.intro hX1 hBw1)
    have HWL : Hid (∀ k, hpBlocks hb v1 v2 k → wA.heap.size ≤ k) := hpB_slice hW.2.2.2 hW.2.1 hW.2.2.1
    have d0 : w1.cell? ⟨hb, 0, none⟩ = some (.int .i64 (od : Int)) := by rw [cell_of_row _ _ _ _ _ _ hW.1, hod]; rfl
    clear hod
    clear hq hsnd hX1 hBw1 hB1 hW hold
    go_wp2_with fail
    refine HC.out.mono ?_
    rintro e w2 ⟨rfl, ⟨v1', hW2, _⟩, hP2⟩
    have hs2 := hP2.size
    have hB2 : Below wA.heap.size w1 w2 := hP2.belowB (Below.refl _ _) hs1 HWL.out
    have hX2 := HX1.out.1.below hB2 (by omega)
    have hBw2 := HX1.out.2.trans (hB2.mono (by omega))
    have HWT := hideT' hW2
    have hkl := keepM_len m.h (liveM m.h (nmk m.noted) od)
    have hko := keepM_old m.h (liveM m.h (nmk m.noted) od)
    have HY := hideT' (young_any (keepM m.h (liveM m.h (nmk m.noted) od)) (List.replicate 200 false) (by rw [List.length_replicate]) (keepM m.h (liveM m.h (nmk m.noted) od)).cells.length hko (Nat.le_refl _) (by omega) wA.heap.size hb v1' v2 w2 hW2)
    have HX2 := hideT' (And.intro hX2 hBw2)
    clear hP2 hB2 hW2 hX2 hBw2 hkl hko
    go_wp2_with fail
    refine HY.out.mono ?_
    rintro e w3 ⟨⟨v, rfl, hown⟩, hB3⟩
    obtain ⟨K, hK⟩ : ∃ K, K = keepM m.h (liveM m.h (nmk m.noted) od) := ⟨_, rfl⟩
    rw [← hK] at hown HWT ⊢
    have HK := hideT' hK
    have hnil : idxI ((List.replicate 200 false).take K.cells.length) K.cells.length = [] := by rw [List.take_replicate]; exact idxI_none _ _
    rw [hnil] at hown
    obtain ⟨o4, c4, e4⟩ := own_formX hown
    subst e4
    have hX3 := HX2.out.1.below hB3 (by omega)
    have hBw3 := HX2.out.2.trans (hB3.mono (by omega))
    have hs3 := hB3.size
    have ho1 : OwnR w3 wA.heap.size v1' 59 cellL 4 K.cells := OwnR.below (l := K.cells) HWT.out.2.1 hB3 (Nat.le_refl _)
    have ho2 : OwnR w3 wA.heap.size v2 3 intL 1 K.roots := OwnR.below (l := K.roots) HWT.out.2.2.1 hB3 (Nat.le_refl _)
    obtain ⟨p1, q1, e5⟩ := own_formX ho1
    obtain ⟨p2, q2, e6⟩ := own_formX ho2
    subst e5 e6
    have HOUT : Hid (collOut m m.h.old.toNat = ⟨K, []⟩) := by unfold Hid; rw [collOut_yes _ HQ.out, HK.out, HOD.out]
    have HAP : Hid (∀ g, (Value.slice p2 K.roots.length q2).ownBlock = some g → (Value.slice o4 ([] : List Int).length c4).ownBlock ≠ some g) := fun g e e' => by have := (HWT.out.2.2.1.lt g e).2; have := (hown.lt g e').1; omega
    have HO := hideT' (And.intro ho1 (And.intro ho2 (And.intro hown hBw3)))
    clear ho1 ho2 hown hBw3 hB3 hK hnil
    go_wp2_with (refine store_4 rfl 30 _ _ rfl rfl zero_yg.2 (w.heap.size + 1) #[.int .i64 K.old, .slice p1 K.cells.length q1, .slice p2 K.roots.length q2, .slice o4 ([] : List Int).length c4] rfl (yg_one _ _ _ _ _ _ _ _ _ _) rfl rfl _ rfl hX3 ?_; intro w4 hR4 hg4 hs4)
    obtain ⟨hO1, hO2, hO3, hBw3⟩ := HO.out
    refine bodyPost_ret (v := .tuple #[.agg #[.int .i64 K.old, .slice p1 K.cells.length q1, .slice p2 K.roots.length q2, .slice o4 ([] : List Int).length c4], .bool true]) (res_young Try.results27 rfl rfl hR4) rfl ⟨⟨.slice p1 K.cells.length q1, .slice p2 K.roots.length q2, .slice o4 ([] : List Int).length c4, by rw [HOUT.out, HQ.out], ?_⟩, hBw3.grown hg4 hBw3.size (fun k e => by cases e; omega)⟩
    rw [HOUT.out]
    refine ⟨⟨⟨?_, ?_⟩, ?_⟩, HAP.out⟩
    · exact own_baseX (hO1.kept hg4 (.inr (fun e => by have := (hO1.lt _ e).1; omega))) (by omega)
    · exact own_baseX (hO2.kept hg4 (.inr (fun e => by have := (hO2.lt _ e).1; omega))) (by omega)
    · exact own_baseX (hO3.kept hg4 (.inr (fun e => by have := (hO3.lt _ e).1; omega))) (by omega)
end Go.Proofs.Ytoaancgmahdbnaa
