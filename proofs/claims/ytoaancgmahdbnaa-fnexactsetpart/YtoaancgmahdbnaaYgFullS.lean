/-
  What the model's lhFull, lhYoung and both its collects over written heaps answer.
-/
import Derived.Test.YtoaancgmahdbnaaSpecYgMove
import Derived.Test.YtoaancgmahdbnaaYgFullI
namespace Go.Proofs.Ytoaancgmahdbnaa
open Go.RowKit Go.Shelf BL
set_option linter.unusedVariables false
attribute [local go_sem] Oper.semAt_some

/-- Of a rising list those below k + 1 are those below k, and k if it is there. -/
theorem rise_filter {lim : Int} (k : Nat) : ∀ (l : List Int) (least : Int), rise lim least l = true → l.filter (fun x => decide (x < ((k + 1 : Nat) : Int))) = l.filter (fun x => decide (x < (k : Int))) ++ (if (k : Int) ∈ l then [(k : Int)] else [])
  | [], _, _ => by simp
  | x :: l, least, h => by
    have hx := rise_mem (x :: l) least h
    rw [rise, Bool.and_eq_true, Bool.and_eq_true] at h
    have ih := rise_filter k l (x + 1) h.2.2
    have hm := rise_mem l (x + 1) h.2.2
    by_cases h1 : x < (k : Int)
    · rw [List.filter_cons_of_pos (by simp; omega), List.filter_cons_of_pos (by simp; omega), ih, List.cons_append]
      congr 2
      by_cases h2 : (k : Int) ∈ l
      · rw [if_pos h2, if_pos (List.mem_cons_of_mem _ h2)]
      · rw [if_neg h2, if_neg (fun hh => by rcases List.mem_cons.1 hh with e | e; exact absurd e (by omega); exact h2 e)]
    · have hnil : l.filter (fun x => decide (x < ((k + 1 : Nat) : Int))) = [] := List.filter_eq_nil_iff.2 (fun y hy => by have := (hm y hy).1; simp; omega)
      have hnil2 : l.filter (fun x => decide (x < (k : Int))) = [] := List.filter_eq_nil_iff.2 (fun y hy => by have := (hm y hy).1; simp; omega)
      by_cases h2 : x = (k : Int)
      · rw [List.filter_cons_of_pos (by simp; omega), List.filter_cons_of_neg (by simp; omega), hnil, hnil2, if_pos (by rw [h2]; exact List.mem_cons_self ..), h2]; rfl
      · rw [List.filter_cons_of_neg (by simp; omega), List.filter_cons_of_neg (by simp; omega), hnil, hnil2, if_neg (fun hh => by rcases List.mem_cons.1 hh with e | e; exact h2 e.symm; exact absurd (hm _ e).1 (by omega))]; rfl
/-- The noted ones, in their order, are the marked ones. -/
theorem noted_idx (l : List Int) (od : Nat) (hod : od ≤ 200) (h : rise (od : Int) 0 l = true) : idxTo ((nmk l).take od) od = l.map Int.toNat := by
  have hm := rise_mem l 0 h
  have key : ∀ k, k ≤ od → idxTo ((nmk l).take od) k = (l.filter (fun x => decide (x < (k : Int)))).map Int.toNat := by
    intro k
    induction k with
    | zero =>
      intro _
      rw [List.filter_eq_nil_iff.2 (fun y hy => by have := (hm y hy).1; simp; omega)]; rfl
    | succ k ih =>
      intro hk
      have hb : bAt ((nmk l).take od) k = decide ((k : Int) ∈ l) := by
        have e1 : bAt ((nmk l).take od) k = bAt (nmk l) k := by unfold bAt; simp only [List.getD]; rw [List.getElem?_take_of_lt (by omega)]
        rw [e1]
        unfold nmk
        rw [bAt_rootsM l _ k (by rw [List.length_replicate]; omega) (fun n hn => (hm n hn).1)]
        have : bAt (List.replicate 200 false) k = false := by unfold bAt; simp only [List.getD, List.getElem?_replicate]; split <;> rfl
        rw [this, Bool.false_or]
      rw [idxTo_succ, hb, ih (by omega), rise_filter k l 0 h, List.map_append]
      by_cases h2 : (k : Int) ∈ l
      · rw [if_pos (by simpa using h2), if_pos h2]; simp
      · rw [if_neg (by simpa using h2), if_neg h2]; simp
  rw [key od (Nat.le_refl _), List.filter_eq_self.2 (fun y hy => by have := (hm y hy).2; simp; omega)]
/-- What is left of a written heap, in new memory. -/
def MovY (m : Yg) (ms : List Bool) (w : World) (e : Ending) (w' : World) : Prop :=
  (∃ u1 u2, e = .returned (.agg #[.int .i64 (keepM m.h ms).old, u1, u2, .slice none 0 0]) ∧ OwnR w' w.heap.size u1 59 cellL 4 (keepM m.h ms).cells ∧ OwnR w' w.heap.size u2 3 intL 1 (keepM m.h ms).roots) ∧ Below w.heap.size w w'

set_option maxHeartbeats 4000000 in
set_option maxRecDepth 100000 in
theorem lhFull_any (m : Yg) (hok : sndOk m.h = true) (o1 o2 o3 : Option Addr) (c1 c2 c3 : Nat) (w : World) (hM : YgRd w (.slice o1 m.h.cells.length c1) (.slice o2 m.h.roots.length c2) (.slice o3 m.noted.length c3) m) :
    Calls Try.prog 59 #[.agg #[.int .i64 m.h.old, .slice o1 m.h.cells.length c1, .slice o2 m.h.roots.length c2, .slice o3 m.noted.length c3]] w fun e w' => MovY m (liveM m.h (nmk m.noted) 0) w e w' := by
  have hz := zero_yg.1
  obtain ⟨wA, hwA⟩ : ∃ wA, wA = (w.alloc (.cells #[.int .i64 m.h.old, .slice o1 m.h.cells.length c1, .slice o2 m.h.roots.length c2, .slice o3 m.noted.length c3] 30)).alloc (.cells #[.int .i64 0, .slice none 0 0, .slice none 0 0, .slice none 0 0] 30) := ⟨_, rfl⟩
  have hBA : Below w.heap.size w wA := by rw [hwA]; exact ((Below.refl _ w).alloc (Nat.le_refl _) _).alloc (by simp) _
  have hsA : wA.heap.size = w.heap.size + 2 := by rw [hwA]; simp
  have hRA : RowAt wA w.heap.size 30 #[.int .i64 m.h.old, .slice o1 m.h.cells.length c1, .slice o2 m.h.roots.length c2, .slice o3 m.noted.length c3] := by rw [hwA]; exact RowAt.old (RowAt.new _ _ _) _
  have hXA : RowAt wA (w.heap.size + 1) 30 #[.int .i64 0, .slice none 0 0, .slice none 0 0, .slice none 0 0] := by
    rw [hwA]
    have := RowAt.new (w.alloc (.cells #[.int .i64 m.h.old, .slice o1 m.h.cells.length c1, .slice o2 m.h.roots.length c2, .slice o3 m.noted.length c3] 30)) 30 #[.int .i64 0, .slice none 0 0, .slice none 0 0, .slice none 0 0]
    rwa [World.size_alloc] at this
  have HWA := hideT' hwA
  have HOK := hideT' hok
  have HM := hideT' hM
  have HA := hideT' (And.intro hRA (And.intro hXA hBA))
  clear hM hwA hXA hBA hRA hok
  go_enter Try.func59, Try.ntmps59
  go_wp2_with fail
  rw [← HWA.out]
  obtain ⟨hRA, hXA, hBA⟩ := HA.out
  have hS : RowAt wA.drew w.heap.size 30 #[.int .i64 m.h.old, .slice o1 m.h.cells.length c1, .slice o2 m.h.roots.length c2, .slice o3 m.noted.length c3] := hRA
  refine held_begin (fun w' => RowAt w' w.heap.size 30 #[.int .i64 m.h.old, .slice o1 m.h.cells.length c1, .slice o2 m.h.roots.length c2, .slice o3 m.noted.length c3]) (by kernel_rfl) ?_
  refine held_valS 0 (some 3) rfl rfl (by kernel_rfl) (by kernel_rfl) (by kernel_rfl) noPanic_put rfl (.agg #[.int .i64 m.h.old, .slice o1 m.h.cells.length c1, .slice o2 m.h.roots.length c2, .slice o3 m.noted.length c3]) (fun w' h => run_loadRow (.tmp 1) 30 rfl w.heap.size rfl _ _ h Try.underlying30 zero_yg.2) hS ?_
  simp only [Act.put, List.setIfInBounds_toArray, List.set_cons_zero, List.set_cons_succ]
  refine held_valS 1 (some 4) rfl rfl (by kernel_rfl) (by kernel_rfl) (by kernel_rfl) noPanic_put rfl (.agg #[.int .i64 m.h.old, .slice o1 m.h.cells.length c1, .slice o2 m.h.roots.length c2, .slice o3 m.noted.length c3]) (fun w' h => run_loadRow (.tmp 1) 30 rfl w.heap.size rfl _ _ h Try.underlying30 zero_yg.2) hS ?_
  simp only [Act.put, List.setIfInBounds_toArray, List.set_cons_zero, List.set_cons_succ]
  refine held_call 2 (some 5) (by kernel_rfl) rfl rfl rfl 54 #[.agg #[.int .i64 m.h.old, .slice o1 m.h.cells.length c1, .slice o2 m.h.roots.length c2, .slice o3 m.noted.length c3]] (by go_simp) _ (lhLive_any m HOK.out o1 o2 o3 c1 c2 c3 wA.drew (HM.out.below hBA.drew)) ?_
  rintro e w3 ⟨⟨mb, rfl, hmb, hD3⟩, hB3⟩
  have hB3' : Below wA.heap.size wA w3 := ⟨hB3.os, hB3.tape, hB3.output, hB3.size, hB3.block⟩
  have hBw3 := hBA.trans (hB3'.mono (by omega))
  have hR3 := hRA.below hB3' (by omega)
  have hX3 := hXA.below hB3' (by omega)
  refine ⟨_, rfl, hR3, ?_⟩
  simp only [Act.put, List.setIfInBounds_toArray, List.set_cons_zero, List.set_cons_succ]
  refine held_call 3 (some 6) (by kernel_rfl) rfl rfl rfl 81 #[.agg #[.int .i64 m.h.old, .slice o1 m.h.cells.length c1, .slice o2 m.h.roots.length c2, .slice o3 m.noted.length c3], .slice (some ⟨mb, 0, none⟩) m.h.cells.length m.h.cells.length] (by go_simp) _ (lhMove_any m HOK.out (liveM m.h (nmk m.noted) 0) (liveM_len _ _ _) o1 o2 o3 c1 c2 c3 mb w3 (HM.out.below hBw3) hD3) ?_
  rintro e w4 ⟨⟨u1, u2, rfl, hO1, hO2⟩, hB4⟩
  obtain ⟨K, hK⟩ : ∃ K, K = keepM m.h (liveM m.h (nmk m.noted) 0) := ⟨_, rfl⟩
  rw [← hK] at hO1 hO2 ⊢
  obtain ⟨p1, q1, hv1⟩ := own_formX hO1
  obtain ⟨p2, q2, hv2⟩ := own_formX hO2
  subst hv1 hv2
  have hs3 := hB3'.size
  have hs4 := hB4.size
  have hR4 := hR3.below hB4 (by omega)
  have hX4 := hX3.below hB4 (by omega)
  have hB4' := hBw3.trans (hB4.mono (by omega))
  refine ⟨_, rfl, hR4, ?_⟩
  simp only [Act.put, List.setIfInBounds_toArray, List.set_cons_zero, List.set_cons_succ]
  refine held_store_rowY 4 (by kernel_rfl) rfl rfl 30 (.tmp 2) (.tmp 6) rfl rfl (w.heap.size + 1) #[.int .i64 K.old, .slice p1 K.cells.length q1, .slice p2 K.roots.length q2, .slice none 0 0] _ rfl rfl hX4 zero_yg.2 rfl (yg_one _ _ _ _ _ _ _ _ _ _) ?_
  intro w5 hX5 hg5 hs5
  refine ⟨hR4.grown hg5 (by intro e; injection e; omega), ?_⟩
  refine wpAnyH_done (by kernel_rfl) ?_ _
  refine NoPanic.normal ?_
  have HF : Hid ((OwnR w5 w.heap.size (.slice p1 K.cells.length q1) 59 cellL 4 K.cells ∧ OwnR w5 w.heap.size (.slice p2 K.roots.length q2) 3 intL 1 K.roots) ∧ Below w.heap.size w w5) := by
    refine ⟨⟨own_baseX (hO1.kept hg5 (.inr (fun e => by have := (hO1.lt _ e).1; omega))) (by omega), own_baseX (hO2.kept hg5 (.inr (fun e => by have := (hO2.lt _ e).1; omega))) (by omega)⟩, hB4'.grown hg5 hB4'.size (fun k e => by cases e; omega)⟩
  have HK := hideT' hK
  clear hg5 hR3 hX3 hD3 hO1 hO2 hR4 hX4 hB3 hB3' hBw3 hB4 hB4' hK hRA hXA hBA hS
  go_wp2_with fail
  exact bodyPost_ret (v := .agg #[.int .i64 K.old, .slice p1 K.cells.length q1, .slice p2 K.roots.length q2, .slice none 0 0]) (results_cell_row Try.results59 _ _ (w.heap.size + 1) 30 _ (0, 0) _ rfl hX5 Try.underlying30 rfl zero_yg.2) rfl ⟨⟨_, _, by rw [← HK.out], by rw [← HK.out]; exact HF.out.1.1, by rw [← HK.out]; exact HF.out.1.2⟩, HF.out.2⟩

set_option maxRecDepth 100000 in
set_option maxHeartbeats 8000000 in
theorem lhYoung_any (m : Yg) (hok : ygOk m = true) (hl3 : m.noted.length ≤ 1048576) (o1 o2 o3 : Option Addr) (c1 c2 c3 : Nat) (w : World) (hM : YgRd w (.slice o1 m.h.cells.length c1) (.slice o2 m.h.roots.length c2) (.slice o3 m.noted.length c3) m) :
    Calls Try.prog 63 #[.agg #[.int .i64 m.h.old, .slice o1 m.h.cells.length c1, .slice o2 m.h.roots.length c2, .slice o3 m.noted.length c3]] w fun e w' => MovY m (liveM m.h (nmk m.noted) m.h.old.toNat) w e w' := by
  have hsnd := ygOk_snd hok
  obtain ⟨hl1, hl2, hold, hcl, hrt⟩ := sndOk_all hsnd
  have HSND := hideT' hsnd
  have hris : rise m.h.old 0 m.noted = true := by
    unfold ygOk at hok
    rw [Bool.and_eq_true, Bool.and_eq_true] at hok
    exact hok.2.1
  have HMC := hideT' hM
  obtain ⟨od, hod⟩ : ∃ od : Nat, m.h.old = (od : Int) := ⟨m.h.old.toNat, by omega⟩
  have hodn : m.h.old.toNat = od := by omega
  have hodl : od ≤ m.h.cells.length := by omega
  rw [hodn]
  rw [hod] at hris ⊢
  have hni := noted_idx m.noted od (by omega) hris
  have hmemr := rise_mem m.noted 0 hris
  obtain ⟨n, hn⟩ : ∃ n, n = m.h.cells.length := ⟨_, rfl⟩
  have HN := hideT' hn
  obtain ⟨LV, hLV⟩ : ∃ LV, LV = liveM m.h (nmk m.noted) od := ⟨_, rfl⟩
  have HLV : Hid (LV = setTo (pdfs m.h.cells od n (rdfs m.h.cells od n (List.replicate n false) m.h.roots) (m.noted.map Int.toNat)) od) := by unfold Hid; rw [hLV, hn, ← hni]; rfl
  have hLVl : LV.length = m.h.cells.length := by rw [hLV]; exact liveM_len _ _ _
  rw [← hLV]
  have hI1 := hM.1.1
  have hI2 := hM.1.2
  have hI3 := hM.2
  have HMR : Hid (∀ (W : World), Below w.heap.size w W → RecAt W (w.heap.size + 2) 4 boolL LV → Calls Try.prog 81 #[.agg #[.int .i64 (od : Int), .slice o1 n c1, .slice o2 m.h.roots.length c2, .slice o3 m.noted.length c3], .slice (some ⟨w.heap.size + 2, 0, none⟩) n n] W fun e w' => MovY m LV W e w') := by
    intro W hB hD
    have := lhMove_any m hsnd LV hLVl o1 o2 o3 c1 c2 c3 (w.heap.size + 2) W (hM.below hB) hD
    rw [hod, ← hn] at this
    exact this
  rw [← hn] at hl1 hcl hI1 hodl ⊢
  have hmk := make_bool n (by omega)
  have hz := zero_yg.1
  have hzc := zero_cell.1
  have hg1 : ∀ g, (Value.slice o1 n c1).ownBlock = some g → m.h.cells ≠ [] → g < w.heap.size := by
    intro g e hne
    obtain ⟨o', cap', e', hin⟩ := hI1
    cases e'
    obtain ⟨g', rfl, hlt, _⟩ := hin hne
    cases e
    exact hlt
  obtain ⟨W, hW⟩ : ∃ W, W = ((w.alloc (.cells #[.int .i64 (od : Int), .slice o1 n c1, .slice o2 m.h.roots.length c2, .slice o3 m.noted.length c3] 30)).alloc (.cells #[.int .i64 0, .slice none 0 0, .slice none 0 0, .slice none 0 0] 30)).alloc (.cells ((List.replicate n false).flatMap boolL).toArray 4) := ⟨_, rfl⟩
  have hBW : Below w.heap.size w W := by rw [hW]; exact (((Below.refl _ _).alloc (Nat.le_refl _) _).alloc (by simp) _).alloc (by simp; omega) _
  have hWs : W.heap.size = w.heap.size + 3 := by rw [hW]; simp
  have hX : RowAt W w.heap.size 30 #[.int .i64 (od : Int), .slice o1 n c1, .slice o2 m.h.roots.length c2, .slice o3 m.noted.length c3] := by rw [hW]; exact RowAt.old (RowAt.old (RowAt.new _ _ _) _) _
  have hX1 : RowAt W (w.heap.size + 1) 30 #[.int .i64 0, .slice none 0 0, .slice none 0 0, .slice none 0 0] := by
    rw [hW]
    have := RowAt.new (w.alloc (.cells #[.int .i64 (od : Int), .slice o1 n c1, .slice o2 m.h.roots.length c2, .slice o3 m.noted.length c3] 30)) 30 #[.int .i64 0, .slice none 0 0, .slice none 0 0, .slice none 0 0]
    rw [World.size_alloc] at this
    exact RowAt.old this _
  have hD : RecAt W (w.heap.size + 2) 4 boolL (List.replicate n false) := by
    rw [hW]
    have := RowAt.new ((w.alloc (.cells #[.int .i64 (od : Int), .slice o1 n c1, .slice o2 m.h.roots.length c2, .slice o3 m.noted.length c3] 30)).alloc (.cells #[.int .i64 0, .slice none 0 0, .slice none 0 0, .slice none 0 0] 30)) 4 ((List.replicate n false).flatMap boolL).toArray
    rwa [World.size_alloc, World.size_alloc] at this
  -- what every later world knows
  have HF : Hid (∀ W', OnlyP (· = w.heap.size + 2) W W' → ((((W'.cell? ⟨w.heap.size, 0, none⟩ = some (.int .i64 (od : Int)) ∧ W'.cell? ⟨w.heap.size, 1, none⟩ = some (.slice o1 n c1)) ∧ W'.cell? ⟨w.heap.size, 2, none⟩ = some (.slice o2 m.h.roots.length c2) ∧ W'.cell? ⟨w.heap.size, 3, none⟩ = some (.slice o3 m.noted.length c3)) ∧ InR W' (.slice o1 n c1) cellL 4 m.h.cells) ∧ (∀ j (r : Nat), m.h.roots.getD j default = (r : Int) → j < m.h.roots.length → ∃ g, o2 = some ⟨g, 0, none⟩ ∧ W'.cell? ⟨g, j, none⟩ = some (.int .i64 (r : Int))) ∧ (∀ j (r : Nat), m.noted.getD j default = (r : Int) → j < m.noted.length → ∃ g, o3 = some ⟨g, 0, none⟩ ∧ W'.cell? ⟨g, j, none⟩ = some (.int .i64 (r : Int)))) ∧ RowAt W' (w.heap.size + 1) 30 #[.int .i64 0, .slice none 0 0, .slice none 0 0, .slice none 0 0]) := by
    intro W' hP
    have b0 := hP.row hX (by omega)
    refine ⟨⟨⟨⟨⟨?_, ?_⟩, ?_, ?_⟩, ?_⟩, fun j r hr hj => ?_, fun j r hr hj => ?_⟩, hP.row hX1 (by omega)⟩
    · rw [cell_of_row _ _ _ _ _ _ b0]; rfl
    · rw [cell_of_row _ _ _ _ _ _ b0]; rfl
    · rw [cell_of_row _ _ _ _ _ _ b0]; rfl
    · rw [cell_of_row _ _ _ _ _ _ b0]; rfl
    · by_cases hne : m.h.cells = []
      · obtain ⟨o', cap', ee, hin⟩ := hI1
        exact ⟨o', cap', ee, fun h => absurd hne h⟩
      · exact hP.inR (hI1.below hBW) (fun g e => by have := hg1 g e hne; omega)
    · obtain ⟨o', cap', ee, hin⟩ := hI2
      cases ee
      obtain ⟨g, rfl, hlt, hc⟩ := hin (fun e => by rw [e] at hj; simp at hj)
      refine ⟨g, rfl, ?_⟩
      have := hc j 0 (.int .i64 (m.h.roots.getD j default)) hj rfl
      rw [Nat.mul_one, Nat.add_zero, hr] at this
      rw [World.cell?_of_block (hP.block g (by omega) (by omega)), World.cell?_of_block (hBW.block g hlt)]
      exact this
    · obtain ⟨o', cap', ee, hin⟩ := hI3
      cases ee
      obtain ⟨g, rfl, hlt, hc⟩ := hin (fun e => by rw [e] at hj; simp at hj)
      refine ⟨g, rfl, ?_⟩
      have := hc j 0 (.int .i64 (m.noted.getD j default)) hj rfl
      rw [Nat.mul_one, Nat.add_zero, hr] at this
      rw [World.cell?_of_block (hP.block g (by omega) (by omega)), World.cell?_of_block (hBW.block g hlt)]
      exact this
  have HMK : Hid (m.h.cells ≠ [] → ∀ f, LhOk m n (w.heap.size + 2) od od true (.slice o2 m.h.roots.length c2) (.slice o3 m.noted.length c3) c1 o1 f) := fun hne f => lhMark_all m n hn hl1 hcl (w.heap.size + 2) od od true rfl _ _ c1 o1 (fun g e => by have := hg1 g e hne; omega) o2 o3 _ _ c2 c3 rfl rfl f
  have HMEM : Hid (∀ j, j < m.noted.length → ∃ r : Nat, m.noted.getD j default = (r : Int) ∧ r < n) := fun j hj => by
    have := hmemr (m.noted.getD j default) (by simp [List.getD, List.getElem?_eq_getElem hj])
    exact ⟨(m.noted.getD j default).toNat, by omega, by omega⟩
  have HRT := hideT' hrt
  have HCL := hideT' hcl
  have HW := hideT' hW
  have HD := hideT' (And.intro hD hBW)
  clear hM hI1 hI2 hI3 hg1 hW hD hX hX1 hBW hcl hrt hn hod hold hok hsnd hris hni hmemr hLV hLVl hodn
  go_enter Try.func63, Try.ntmps63
  go_wp2_with fail
  rw [← HW.out]
  clear hmk
  obtain ⟨lr, hlr⟩ : ∃ lr, lr = m.h.roots.length := ⟨_, rfl⟩
  have HLR := hideT' hlr
  clear hlr
  go_loopg [17] m.h.roots.length (fun g i wr => ∃ j : Nat, g = m.h.roots.length - j ∧ j ≤ m.h.roots.length ∧ i = .int .i64 (j : Int) ∧ RecAt wr (w.heap.size + 2) 4 boolL (rdfs m.h.cells od n (List.replicate n false) (m.h.roots.take j)) ∧ OnlyP (· = w.heap.size + 2) W wr)
  case atStart => exact ⟨0, rfl, by omega, by go_num, HD.out.1, OnlyP.refl _ _⟩
  case round =>
    obtain ⟨j, hg, hj, rfl, hR, hP⟩ := hrel
    obtain ⟨⟨⟨⟨⟨f0, f1⟩, f2, f3⟩, hin⟩, hro, _⟩, _⟩ := HF.out wr hP
    by_cases hltj : (j : Int) < (m.h.roots.length : Int)
    · have hj' : j < m.h.roots.length := by omega
      obtain ⟨r, hr, hrl⟩ := HRT.out j hj'
      obtain ⟨g2, rfl, hcell⟩ := hro j r hr hj'
      have hne : m.h.cells ≠ [] := fun e => by rw [e] at hrl; simp at hrl
      have hlen : (rdfs m.h.cells od n (List.replicate n false) (m.h.roots.take j)).length = n := by rw [rdfs_len, List.length_replicate]
      have HC := hideT' (HMK.out hne n _ r wr hlen (by rw [HN.out]; exact hrl) (by have := fal_le (rdfs m.h.cells od n (List.replicate n false) (m.h.roots.take j)); omega) hin hR)
      have HTK : Hid (rdfs m.h.cells od n (List.replicate n false) (m.h.roots.take (j + 1)) = dfs m.h.cells od n (rdfs m.h.cells od n (List.replicate n false) (m.h.roots.take j)) r) := by unfold Hid; rw [rdfs_take _ _ _ _ hj', hr]; rfl
      have HP := hideT' hP
      clear hR hP hin hro hr hrl hlen hne
      go_wp2_with fail
      refine HC.out.mono ?_
      rintro e W2 ⟨rfl, hR2, hP2⟩
      have HO := hideT' (And.intro hR2 (HP.out.trans hP2))
      clear hR2 hP2
      go_wp2
      go_roundg (m.h.roots.length - (j + 1))
      case measure => omega
      case rel => exact ⟨j + 1, rfl, by omega, by go_num, by rw [HTK.out]; exact HO.out.1, HO.out.2⟩
    · have hjr : j = m.h.roots.length := by omega
      rw [hjr, List.take_length] at hR
      obtain ⟨R0, hR0⟩ : ∃ R0, R0 = rdfs m.h.cells od n (List.replicate n false) m.h.roots := ⟨_, rfl⟩
      have hR0l : R0.length = n := by rw [hR0, rdfs_len, List.length_replicate]
      rw [← hR0] at hR HLV
      have HR0L := hideT' hR0l
      have H0 := hideT' (And.intro hR hP)
      clear hR hP hin hro hjr hR0 hR0l
      go_wp2_with fail
      go_loopg [29] m.noted.length (fun g i wr => ∃ j : Nat, g = m.noted.length - j ∧ j ≤ m.noted.length ∧ i = .int .i64 (j : Int) ∧ RecAt wr (w.heap.size + 2) 4 boolL (pdfs m.h.cells od n R0 ((m.noted.take j).map Int.toNat)) ∧ OnlyP (· = w.heap.size + 2) W wr)
      case atStart => exact ⟨0, rfl, by omega, by go_num, H0.out.1, H0.out.2⟩
      case round =>
        clear f0 f1 f2 f3
        obtain ⟨j, hg, hj, rfl, hR, hP⟩ := hrel
        obtain ⟨⟨⟨⟨⟨f0, f1⟩, f2, f3⟩, hin⟩, _, hno⟩, _⟩ := HF.out wr hP
        by_cases hltj : (j : Int) < (m.noted.length : Int)
        · have hj' : j < m.noted.length := by omega
          obtain ⟨r, hr, hrl⟩ := HMEM.out j hj'
          obtain ⟨g3, rfl, hcell⟩ := hno j r hr hj'
          have hne : m.h.cells ≠ [] := fun e => by have := HN.out; rw [e] at this; simp at this; omega
          obtain ⟨MS, hMS⟩ : ∃ MS, MS = pdfs m.h.cells od n R0 ((m.noted.take j).map Int.toNat) := ⟨_, rfl⟩
          have hlen : MS.length = n := by rw [hMS, pdfs_len]; exact HR0L.out
          obtain ⟨d, hd⟩ : ∃ d, d = m.h.cells.getD r default := ⟨_, rfl⟩
          have HTK : Hid (pdfs m.h.cells od n R0 ((m.noted.take (j + 1)).map Int.toNat) = prt m.h.cells od n MS d) := by
            unfold Hid
            have e : m.noted.getD j default = m.noted[j] := by simp [List.getD, List.getElem?_eq_getElem hj']
            rw [List.take_succ_eq_append_getElem hj', List.map_append, List.map_singleton, pdfs_snoc, ← hMS, ← e, hr, hd]; rfl
          have hsn : sndC n d = true := by rw [hd]; exact getD_all HCL.out (by have := HN.out; omega)
          rw [← hMS] at hR
          obtain ⟨lf, kk, a, cc⟩ := d
          have hM1 : InR wr (.slice o1 m.h.cells.length c1) cellL 4 m.h.cells := by rw [← HN.out]; exact hin
          obtain ⟨g1, hgo, q0, q1, q2, q3⟩ := hM1.cells4 (show r < m.h.cells.length by have := HN.out; omega) hd
          subst hgo
          have hri : (r : Int) < (n : Int) := by omega
          have l10 : w.heap.size + 2 < wr.heap.size := hR.lt
          clear hMS hd hM1 hno hr
          cases lf with
          | true =>
            have HS : Hid (prt m.h.cells od n MS (true, kk, a, cc) = MS) := rfl
            have HO : Hid (RecAt (wr.alloc (.cells #[.bool true, .int .i64 kk, .int .i64 a, .int .i64 cc] 59)) (w.heap.size + 2) 4 boolL MS ∧ OnlyP (· = w.heap.size + 2) W (wr.alloc (.cells #[.bool true, .int .i64 kk, .int .i64 a, .int .i64 cc] 59))) := ⟨RowAt.old hR _, hP.grown (grown_alloc _ _ none) (fun r e => by cases e)⟩
            clear hR hP hin hsn hlen hne
            go_wp2_with fail
            go_roundg (m.noted.length - (j + 1))
            case measure => omega
            case rel => exact ⟨j + 1, rfl, by omega, by go_num, by rw [HTK.out, HS.out]; exact HO.out.1, HO.out.2⟩
          | false =>
            obtain ⟨hn0, A, C, hA, hC, hAi, hCi⟩ := sndC_pair hsn rfl
            subst hn0 hA hC
            obtain ⟨w1, hw1⟩ : ∃ w1, w1 = wr.alloc (.cells #[.bool false, .int .i64 0, .int .i64 (A : Int), .int .i64 (C : Int)] 59) := ⟨_, rfl⟩
            have hP1 : OnlyP (· = w.heap.size + 2) W w1 := by rw [hw1]; exact hP.grown (grown_alloc _ _ none) (fun r e => by cases e)
            have hR1 : RecAt w1 (w.heap.size + 2) 4 boolL MS := by rw [hw1]; exact RowAt.old hR _
            have hX1 : RowAt w1 wr.heap.size 59 #[.bool false, .int .i64 0, .int .i64 (A : Int), .int .i64 (C : Int)] := by rw [hw1]; exact RowAt.new _ _ _
            obtain ⟨⟨⟨⟨⟨t0, t1⟩, t2, t3⟩, hin1⟩, _, _⟩, _⟩ := HF.out w1 hP1
            have hCC1 := HMK.out hne n MS A w1 hlen hAi (by have := fal_le MS; omega) hin1 hR1
            have hlen2 : (dfs m.h.cells od n MS A).length = n := by rw [dfs_len, hlen]
            have HMK2 := hideT' (HMK.out hne n (dfs m.h.cells od n MS A) C)
            have HC1 := hideT' hCC1
            have H1 := hideT' (And.intro hP1 (And.intro hX1 hlen2))
            have HW1 := hideT' hw1
            rw [hw1] at t0 t1 t2 t3
            clear hR hP hin hsn hlen hne hP1 hR1 hX1 hin1 hCC1 hlen2 hw1
            go_wp2_with fail
            first | rw [← HW1.out] | skip
            refine HC1.out.mono ?_
            rintro e w2 ⟨rfl, hR2, hP2⟩
            have hP2' := H1.out.1.trans hP2
            have hX2 := hP2.row H1.out.2.1 (by omega)
            have z3 : w2.cell? ⟨wr.heap.size, 3, none⟩ = some (.int .i64 (C : Int)) := by rw [cell_of_row _ _ _ _ _ _ hX2]; rfl
            obtain ⟨⟨⟨⟨⟨y0, y1⟩, y2, y3⟩, hin2⟩, _, _⟩, _⟩ := HF.out w2 hP2'
            have HC2 := hideT' (HMK2.out w2 H1.out.2.2 hCi (by have := fal_le (dfs m.h.cells od n MS A); have := H1.out.2.2; omega) hin2 hR2)
            have HP2 := hideT' hP2'
            clear hR2 hP2 hP2' hX2 hin2 t0 t1 t2 t3
            go_wp2_with fail
            refine HC2.out.mono ?_
            rintro e w3 ⟨rfl, hR3, hP3⟩
            have HO := hideT' (And.intro hR3 (HP2.out.trans hP3))
            clear hR3 hP3
            go_wp2
            go_roundg (m.noted.length - (j + 1))
            case measure => omega
            case rel => exact ⟨j + 1, rfl, by omega, by go_num, by rw [HTK.out]; exact HO.out.1, HO.out.2⟩
        · have hjr : j = m.noted.length := by omega
          rw [hjr, List.take_length] at hR
          obtain ⟨P0, hP0⟩ : ∃ P0, P0 = pdfs m.h.cells od n R0 (m.noted.map Int.toNat) := ⟨_, rfl⟩
          have hP0l : P0.length = n := by rw [hP0, pdfs_len]; exact HR0L.out
          rw [← hP0] at hR HLV
          have HP0L := hideT' hP0l
          have H2 := hideT' (And.intro hR hP)
          clear hR hP hin hno hjr hP0 hP0l H0
          go_wp2_with fail
          go_loopg [9] od (fun g i wr => ∃ j : Nat, g = od - j ∧ j ≤ od ∧ i = .int .i64 (j : Int) ∧ RecAt wr (w.heap.size + 2) 4 boolL (setTo P0 j) ∧ OnlyP (· = w.heap.size + 2) W wr)
          case atStart => exact ⟨0, rfl, by omega, by go_num, H2.out.1, H2.out.2⟩
          case round =>
            clear f0 f1 f2 f3
            obtain ⟨j, hg, hj, rfl, hR, hP⟩ := hrel
            obtain ⟨⟨⟨⟨⟨f0, f1⟩, f2, f3⟩, hin⟩, _, _⟩, hZ⟩ := HF.out wr hP
            by_cases hltj : (j : Int) < (od : Int)
            · have hjn : (j : Int) < (n : Int) := by omega
              have hlen : (setTo P0 j).length = n := by rw [setTo_len]; exact HP0L.out
              have hcc := bool_cell hR (i := j) (by omega)
              have hff := rec1_froz hR j
              have h5 := rec1_set hR j true
              have HP := hideT' hP
              have H5 : Hid (RecAt (wr.setCell ⟨w.heap.size + 2, j, none⟩ (.bool true)) (w.heap.size + 2) 4 boolL (setTo P0 (j + 1)) ∧ OnlyP (· = w.heap.size + 2) W (wr.setCell ⟨w.heap.size + 2, j, none⟩ (.bool true))) := ⟨h5, hP.grown (grown_set wr (w.heap.size + 2) j (.bool true)) (fun r e => .inr (by injection e with e; exact e.symm))⟩
              clear hR hP hin h5 hlen hZ
              go_wp2
              go_roundg (od - (j + 1))
              case measure => omega
              case rel => exact ⟨j + 1, rfl, by omega, by go_num, H5.out.1, H5.out.2⟩
            · have hjo : j = od := by omega
              rw [hjo, ← HLV.out] at hR
              have hBw : Below w.heap.size w wr := hP.belowB HD.out.2 (by omega) (fun k e => by omega)
              have HC := hideT' (HMR.out wr hBw hR)
              have HB := hideT' (And.intro hBw hZ)
              have hsz := hP.size
              clear hR hP hin hZ hBw hjo
              go_wp2_with fail
              refine HC.out.mono ?_
              rintro e w4 ⟨⟨u1, u2, rfl, hO1, hO2⟩, hB4⟩
              obtain ⟨K, hK⟩ : ∃ K, K = keepM m.h LV := ⟨_, rfl⟩
              rw [← hK] at hO1 hO2 ⊢
              obtain ⟨p1, q1, hv1⟩ := own_formX hO1
              obtain ⟨p2, q2, hv2⟩ := own_formX hO2
              subst hv1 hv2
              have hX4 := HB.out.2.below hB4 (by omega)
              have hB4' := HB.out.1.trans (hB4.mono HB.out.1.size)
              have HO := hideT' (And.intro hO1 (And.intro hO2 hB4'))
              have HK := hideT' hK
              clear hO1 hO2 hB4 hB4' hK f0 f1 f2 f3
              go_wp2_with (refine store_4 rfl 30 _ _ rfl rfl zero_yg.2 (w.heap.size + 1) #[.int .i64 K.old, .slice p1 K.cells.length q1, .slice p2 K.roots.length q2, .slice none 0 0] rfl (yg_one _ _ _ _ _ _ _ _ _ _) rfl rfl _ rfl hX4 ?_; intro w5 hX5 hg5 hs5)
              obtain ⟨hO1, hO2, hB4'⟩ := HO.out
              refine bodyPost_ret (v := .agg #[.int .i64 K.old, .slice p1 K.cells.length q1, .slice p2 K.roots.length q2, .slice none 0 0]) (results_cell_row Try.results63 _ _ (w.heap.size + 1) 30 _ (0, 0) _ rfl hX5 Try.underlying30 rfl zero_yg.2) rfl ⟨⟨_, _, by rw [← HK.out], ?_, ?_⟩, hB4'.grown hg5 hB4'.size (fun k e => by cases e; omega)⟩
              · rw [← HK.out]; exact own_baseX (hO1.kept hg5 (.inr (fun e => by have := (hO1.lt _ e).1; omega))) (by omega)
              · rw [← HK.out]; exact own_baseX (hO2.kept hg5 (.inr (fun e => by have := (hO2.lt _ e).1; omega))) (by omega)

set_option maxHeartbeats 4000000 in
set_option maxRecDepth 100000 in
theorem specFullCollect_any (m : Yg) (o1 o2 o3 : Option Addr) (c1 c2 c3 : Nat) (w : World) (hs : YgSmall m 1048576) (hM : YgRd w (.slice o1 m.h.cells.length c1) (.slice o2 m.h.roots.length c2) (.slice o3 m.noted.length c3) m) :
    Calls Try.prog 23 #[.agg #[.int .i64 m.h.old, .slice o1 m.h.cells.length c1, .slice o2 m.h.roots.length c2, .slice o3 m.noted.length c3]] w fun e w' => CollY m 0 w e w' := by
  have hz := zero_yg.1
  obtain ⟨wA, hwA⟩ : ∃ wA, wA = (w.alloc (.cells #[.int .i64 m.h.old, .slice o1 m.h.cells.length c1, .slice o2 m.h.roots.length c2, .slice o3 m.noted.length c3] 30)).alloc (.cells #[.int .i64 0, .slice none 0 0, .slice none 0 0, .slice none 0 0] 30) := ⟨_, rfl⟩
  have hBA : Below w.heap.size w wA := by rw [hwA]; exact ((Below.refl _ w).alloc (Nat.le_refl _) _).alloc (by simp) _
  have hsA : wA.heap.size = w.heap.size + 2 := by rw [hwA]; simp
  have hRA : RowAt wA w.heap.size 30 #[.int .i64 m.h.old, .slice o1 m.h.cells.length c1, .slice o2 m.h.roots.length c2, .slice o3 m.noted.length c3] := by rw [hwA]; exact RowAt.old (RowAt.new _ _ _) _
  have hXA : RowAt wA (w.heap.size + 1) 30 #[.int .i64 0, .slice none 0 0, .slice none 0 0, .slice none 0 0] := by
    rw [hwA]
    have := RowAt.new (w.alloc (.cells #[.int .i64 m.h.old, .slice o1 m.h.cells.length c1, .slice o2 m.h.roots.length c2, .slice o3 m.noted.length c3] 30)) 30 #[.int .i64 0, .slice none 0 0, .slice none 0 0, .slice none 0 0]
    rwa [World.size_alloc] at this
  have HG := hideT' (specGoodYoung_any m _ _ _ wA hs hs.2 (hM.below hBA))
  have HM := hideT' hM
  have HA := hideT' (And.intro hRA (And.intro hXA hBA))
  have HWA := hideT' hwA
  have HS3 := hideT' hs.2
  clear hM hRA hXA hBA hwA hs
  go_enter Try.func23, Try.ntmps23
  go_wp2_with fail
  rw [← HWA.out]
  refine HG.out.mono ?_
  rintro e w1 ⟨rfl, hB1⟩
  have hR1 := HA.out.1.below hB1 (by omega)
  have hX1 := HA.out.2.1.below hB1 (by omega)
  have hBw1 := HA.out.2.2.trans (hB1.mono (by omega))
  have hs1 := hB1.size
  obtain ⟨q, hq⟩ : ∃ q, q = ygOk m := ⟨_, rfl⟩
  rw [← hq]
  have HQ := hideT' hq
  clear hq hB1
  cases q with
  | false =>
    have HX := hideT' hBw1
    clear hR1 hBw1
    go_wp2_with (refine store_4 rfl 30 _ _ rfl rfl zero_yg.2 (w.heap.size + 1) #[.int .i64 0, .slice none 0 0, .slice none 0 0, .slice none 0 0] rfl (yg_one _ _ _ _ _ _ _ _ _ _) rfl rfl _ rfl hX1 ?_; intro w2 hR2 hg2 hs2)
    refine bodyPost_ret (v := .tuple #[.agg #[.int .i64 0, .slice none 0 0, .slice none 0 0, .slice none 0 0], .bool false]) (res_young Try.results23 rfl rfl hR2) rfl ⟨⟨.slice none 0 0, .slice none 0 0, .slice none 0 0, by rw [collOut_no _ HQ.out.symm, ← HQ.out], by rw [collOut_no _ HQ.out.symm]; exact YgO.nil _ _ _⟩, HX.out.grown hg2 HX.out.size (fun k e => by cases e; omega)⟩
  | true =>
  have hok : ygOk m = true := HQ.out.symm
  have HC := hideT' (lhFull_any m (ygOk_snd hok) o1 o2 o3 c1 c2 c3 w1 (HM.out.below hBw1))
  have HX1 := hideT' (And.intro hX1 hBw1)
  have e0 : w1.cell? ⟨w.heap.size, 0, none⟩ = some (.int .i64 m.h.old) := by rw [cell_of_row _ _ _ _ _ _ hR1]; rfl
  have e1 : w1.cell? ⟨w.heap.size, 1, none⟩ = some (.slice o1 m.h.cells.length c1) := by rw [cell_of_row _ _ _ _ _ _ hR1]; rfl
  have e2 : w1.cell? ⟨w.heap.size, 2, none⟩ = some (.slice o2 m.h.roots.length c2) := by rw [cell_of_row _ _ _ _ _ _ hR1]; rfl
  have e3 : w1.cell? ⟨w.heap.size, 3, none⟩ = some (.slice o3 m.noted.length c3) := by rw [cell_of_row _ _ _ _ _ _ hR1]; rfl
  clear hR1 hX1 hBw1 hok
  go_wp2_with fail
  refine HC.out.mono ?_
  rintro e w4 ⟨⟨u1, u2, rfl, hO1, hO2⟩, hB4⟩
  obtain ⟨K, hK⟩ : ∃ K, K = keepM m.h (liveM m.h (nmk m.noted) 0) := ⟨_, rfl⟩
  rw [← hK] at hO1 hO2 ⊢
  obtain ⟨p1, q1, hv1⟩ := own_formX hO1
  obtain ⟨p2, q2, hv2⟩ := own_formX hO2
  subst hv1 hv2
  have hX4 := HX1.out.1.below hB4 (by omega)
  have hB4' := HX1.out.2.trans (hB4.mono (by omega))
  have HOUT : Hid (collOut m 0 = ⟨K, []⟩) := by unfold Hid; rw [collOut_yes _ HQ.out.symm, hK]
  have HO := hideT' (And.intro hO1 (And.intro hO2 hB4'))
  have HK := hideT' hK
  clear hO1 hO2 hB4 hB4' hK e0 e1 e2 e3
  go_wp2_with (refine store_4 rfl 30 _ _ rfl rfl zero_yg.2 (w.heap.size + 1) #[.int .i64 K.old, .slice p1 K.cells.length q1, .slice p2 K.roots.length q2, .slice none 0 0] rfl (yg_one _ _ _ _ _ _ _ _ _ _) rfl rfl _ rfl hX4 ?_; intro w5 hX5 hg5 hs5)
  obtain ⟨hO1, hO2, hB4'⟩ := HO.out
  refine bodyPost_ret (v := .tuple #[.agg #[.int .i64 K.old, .slice p1 K.cells.length q1, .slice p2 K.roots.length q2, .slice none 0 0], .bool true]) (res_young Try.results23 rfl rfl hX5) rfl ⟨⟨_, _, .slice none 0 0, by rw [HOUT.out, ← HQ.out], ?_⟩, hB4'.grown hg5 hB4'.size (fun k e => by cases e; omega)⟩
  rw [HOUT.out]
  refine ⟨⟨⟨?_, ?_⟩, World.ownsRow_nil _ _ _ _⟩, fun g _ e => by cases e⟩
  · exact own_baseX (hO1.kept hg5 (.inr (fun e => by have := (hO1.lt _ e).1; omega))) (by omega)
  · exact own_baseX (hO2.kept hg5 (.inr (fun e => by have := (hO2.lt _ e).1; omega))) (by omega)

set_option maxHeartbeats 4000000 in
set_option maxRecDepth 100000 in
theorem specYoungCollect_any (m : Yg) (o1 o2 o3 : Option Addr) (c1 c2 c3 : Nat) (w : World) (hs : YgSmall m 1048576) (hM : YgRd w (.slice o1 m.h.cells.length c1) (.slice o2 m.h.roots.length c2) (.slice o3 m.noted.length c3) m) :
    Calls Try.prog 26 #[.agg #[.int .i64 m.h.old, .slice o1 m.h.cells.length c1, .slice o2 m.h.roots.length c2, .slice o3 m.noted.length c3]] w fun e w' => CollY m m.h.old.toNat w e w' := by
  have hz := zero_yg.1
  obtain ⟨wA, hwA⟩ : ∃ wA, wA = (w.alloc (.cells #[.int .i64 m.h.old, .slice o1 m.h.cells.length c1, .slice o2 m.h.roots.length c2, .slice o3 m.noted.length c3] 30)).alloc (.cells #[.int .i64 0, .slice none 0 0, .slice none 0 0, .slice none 0 0] 30) := ⟨_, rfl⟩
  have hBA : Below w.heap.size w wA := by rw [hwA]; exact ((Below.refl _ w).alloc (Nat.le_refl _) _).alloc (by simp) _
  have hsA : wA.heap.size = w.heap.size + 2 := by rw [hwA]; simp
  have hRA : RowAt wA w.heap.size 30 #[.int .i64 m.h.old, .slice o1 m.h.cells.length c1, .slice o2 m.h.roots.length c2, .slice o3 m.noted.length c3] := by rw [hwA]; exact RowAt.old (RowAt.new _ _ _) _
  have hXA : RowAt wA (w.heap.size + 1) 30 #[.int .i64 0, .slice none 0 0, .slice none 0 0, .slice none 0 0] := by
    rw [hwA]
    have := RowAt.new (w.alloc (.cells #[.int .i64 m.h.old, .slice o1 m.h.cells.length c1, .slice o2 m.h.roots.length c2, .slice o3 m.noted.length c3] 30)) 30 #[.int .i64 0, .slice none 0 0, .slice none 0 0, .slice none 0 0]
    rwa [World.size_alloc] at this
  have HG := hideT' (specGoodYoung_any m _ _ _ wA hs hs.2 (hM.below hBA))
  have HM := hideT' hM
  have HA := hideT' (And.intro hRA (And.intro hXA hBA))
  have HWA := hideT' hwA
  have HS3 := hideT' hs.2
  clear hM hRA hXA hBA hwA hs
  go_enter Try.func26, Try.ntmps26
  go_wp2_with fail
  rw [← HWA.out]
  refine HG.out.mono ?_
  rintro e w1 ⟨rfl, hB1⟩
  have hR1 := HA.out.1.below hB1 (by omega)
  have hX1 := HA.out.2.1.below hB1 (by omega)
  have hBw1 := HA.out.2.2.trans (hB1.mono (by omega))
  have hs1 := hB1.size
  obtain ⟨q, hq⟩ : ∃ q, q = ygOk m := ⟨_, rfl⟩
  rw [← hq]
  have HQ := hideT' hq
  clear hq hB1
  cases q with
  | false =>
    have HX := hideT' hBw1
    clear hR1 hBw1
    go_wp2_with (refine store_4 rfl 30 _ _ rfl rfl zero_yg.2 (w.heap.size + 1) #[.int .i64 0, .slice none 0 0, .slice none 0 0, .slice none 0 0] rfl (yg_one _ _ _ _ _ _ _ _ _ _) rfl rfl _ rfl hX1 ?_; intro w2 hR2 hg2 hs2)
    refine bodyPost_ret (v := .tuple #[.agg #[.int .i64 0, .slice none 0 0, .slice none 0 0, .slice none 0 0], .bool false]) (res_young Try.results26 rfl rfl hR2) rfl ⟨⟨.slice none 0 0, .slice none 0 0, .slice none 0 0, by rw [collOut_no _ HQ.out.symm, ← HQ.out], by rw [collOut_no _ HQ.out.symm]; exact YgO.nil _ _ _⟩, HX.out.grown hg2 HX.out.size (fun k e => by cases e; omega)⟩
  | true =>
  have hok : ygOk m = true := HQ.out.symm
  have HC := hideT' (lhYoung_any m hok HS3.out o1 o2 o3 c1 c2 c3 w1 (HM.out.below hBw1))
  have HX1 := hideT' (And.intro hX1 hBw1)
  have e0 : w1.cell? ⟨w.heap.size, 0, none⟩ = some (.int .i64 m.h.old) := by rw [cell_of_row _ _ _ _ _ _ hR1]; rfl
  have e1 : w1.cell? ⟨w.heap.size, 1, none⟩ = some (.slice o1 m.h.cells.length c1) := by rw [cell_of_row _ _ _ _ _ _ hR1]; rfl
  have e2 : w1.cell? ⟨w.heap.size, 2, none⟩ = some (.slice o2 m.h.roots.length c2) := by rw [cell_of_row _ _ _ _ _ _ hR1]; rfl
  have e3 : w1.cell? ⟨w.heap.size, 3, none⟩ = some (.slice o3 m.noted.length c3) := by rw [cell_of_row _ _ _ _ _ _ hR1]; rfl
  clear hR1 hX1 hBw1 hok
  go_wp2_with fail
  refine HC.out.mono ?_
  rintro e w4 ⟨⟨u1, u2, rfl, hO1, hO2⟩, hB4⟩
  obtain ⟨K, hK⟩ : ∃ K, K = keepM m.h (liveM m.h (nmk m.noted) m.h.old.toNat) := ⟨_, rfl⟩
  rw [← hK] at hO1 hO2 ⊢
  obtain ⟨p1, q1, hv1⟩ := own_formX hO1
  obtain ⟨p2, q2, hv2⟩ := own_formX hO2
  subst hv1 hv2
  have hX4 := HX1.out.1.below hB4 (by omega)
  have hB4' := HX1.out.2.trans (hB4.mono (by omega))
  have HOUT : Hid (collOut m m.h.old.toNat = ⟨K, []⟩) := by unfold Hid; rw [collOut_yes _ HQ.out.symm, hK]
  have HO := hideT' (And.intro hO1 (And.intro hO2 hB4'))
  have HK := hideT' hK
  clear hO1 hO2 hB4 hB4' hK e0 e1 e2 e3
  go_wp2_with (refine store_4 rfl 30 _ _ rfl rfl zero_yg.2 (w.heap.size + 1) #[.int .i64 K.old, .slice p1 K.cells.length q1, .slice p2 K.roots.length q2, .slice none 0 0] rfl (yg_one _ _ _ _ _ _ _ _ _ _) rfl rfl _ rfl hX4 ?_; intro w5 hX5 hg5 hs5)
  obtain ⟨hO1, hO2, hB4'⟩ := HO.out
  refine bodyPost_ret (v := .tuple #[.agg #[.int .i64 K.old, .slice p1 K.cells.length q1, .slice p2 K.roots.length q2, .slice none 0 0], .bool true]) (res_young Try.results26 rfl rfl hX5) rfl ⟨⟨_, _, .slice none 0 0, by rw [HOUT.out, ← HQ.out], ?_⟩, hB4'.grown hg5 hB4'.size (fun k e => by cases e; omega)⟩
  rw [HOUT.out]
  refine ⟨⟨⟨?_, ?_⟩, World.ownsRow_nil _ _ _ _⟩, fun g _ e => by cases e⟩
  · exact own_baseX (hO1.kept hg5 (.inr (fun e => by have := (hO1.lt _ e).1; omega))) (by omega)
  · exact own_baseX (hO2.kept hg5 (.inr (fun e => by have := (hO2.lt _ e).1; omega))) (by omega)
theorem collOut_small {m : Yg} (old : Nat) (h : YgSmall m 1048576) : YgSmall (collOut m old) 1048576 := by
  unfold collOut
  split
  · refine ⟨⟨Nat.le_trans (keepM_len _ _) h.1.1, ?_⟩, by simp⟩
    show (movR _ m.h.roots).length ≤ 1048576
    rw [movR_len]; exact h.1.2
  · exact ⟨⟨by simp, by simp⟩, by simp⟩
end Go.Proofs.Ytoaancgmahdbnaa
