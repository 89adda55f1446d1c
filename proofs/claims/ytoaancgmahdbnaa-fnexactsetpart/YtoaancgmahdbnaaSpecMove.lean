/-
  What spec.l7Move leaves.
-/
import Derived.Test.YtoaancgmahdbnaaHeapMove
import Derived.Test.YtoaancgmahdbnaaBaseMany
namespace Go.Proofs.Ytoaancgmahdbnaa
open Go.RowKit BL
set_option linter.unusedVariables false

theorem cells4_new (w : World) (d : Cl) : ∀ j u, (cellL d)[j]? = some u → (w.alloc (.cells (cellL d).toArray 59)).cell? ((⟨w.heap.size, 0, none⟩ : Addr).add j) = some u := fun j u hu => by
  rw [Addr.add_mid, Nat.zero_add, cell_of_row _ _ _ _ _ _ (RowAt.new w 59 (cellL d).toArray), List.getElem?_toArray]; exact hu
/-- What holds while cells are moved. -/
def MoI (m : Hp) (ms : List Bool) (w : World) (n : Nat) (o1 o2 : Option Addr) (c1 c2 : Nat) (k : Nat) (W : World) : Prop :=
  RowAt W w.heap.size 48 #[.int .i64 m.old, .slice o1 n c1, .slice o2 m.roots.length c2] ∧ RowAt W (w.heap.size + 1) 48 #[.int .i64 0, .slice none 0 0, .slice none 0 0] ∧ RecAt W (w.heap.size + 2) 3 intL (moveTo m.cells ms k).1 ∧
  ∃ u, RowAt W (w.heap.size + 3) 48 #[.int .i64 0, u, .slice none 0 0] ∧ W.ownsRow (w.heap.size + 4) 59 4 u (moveTo m.cells ms k).2.length ((moveTo m.cells ms k).2.flatMap cellL)
theorem wp_store_row' {op : Oper} {a : Act} {w : World} {K : Act → World → Prop} {Q : Exit → Act → World → Prop} (ty : TypeId) (x y : Operand) (ho : op.op = .store ty x y) (hd : op.dst = none)
    (b o : Nat) (v : Value) (hx : a.eval x = .pointer (some ⟨b, o, none⟩)) (hy : a.eval y = v) (hi : (Try.prog.info? ty).map (·.size) = some 1) (h1 : v.oneCell' = true) (t : TypeId) (cs : Array Value) (hR : RowAt w b t cs) (hon : o < cs.size)
    (h : ∀ w', RowAt w' b t (cs.setIfInBounds o v) → w.grownBy w' (some b) → w'.heap.size = w.heap.size → K a w') : op.wp Try.prog a w K Q := store_at_wp ty x y ho hd b o v hx hy hi h1 t cs hR hon h
theorem many_begin {ops : Array Oper} {Q : Exit → Act → World → Prop} {a : Act} {w : World} {id : Nat} (ps : List (Nat × (World → Prop))) (S : World → Prop) (hm : Try.prog.follows .mixedOrders = true) (h : wpAnyM Try.prog .any ops (NoPanic Q) ps S ops.size (Array.replicate ops.size false) a w.drew) : (Code.region id ops true).wp Try.prog Q a w :=
  wp_region_noPanic (wp_region_any hm (wpAny_of_many _ _ _ _ h))

set_option maxHeartbeats 8000000 in
set_option maxRecDepth 100000 in
theorem l7Move_any (m : Hp) (hok : hpOk m = true) (ms : List Bool) (hml : ms.length = m.cells.length) (v1 v2 : Value) (mb : Nat) (w : World) (hM : HpRd w v1 v2 m) (hMD : RecAt w mb 4 boolL ms) :
    Calls Try.prog 84 #[.agg #[.int .i64 m.old, v1, v2], slR mb ms] w fun e w' => (∃ u1 u2, e = .returned (.agg #[.int .i64 (moveM m ms).old, u1, u2]) ∧ OwnR w' w.heap.size u1 59 cellL 4 (moveM m ms).cells ∧ OwnR w' w.heap.size u2 3 intL 1 (moveM m ms).roots) ∧ Below w.heap.size w w' := by
  obtain ⟨hl1, hl2, _, hcl, hrt⟩ := hpOk_all hok
  obtain ⟨o1, c1, e1, x1⟩ := hM.1
  obtain ⟨o2, c2, e2, x2⟩ := hM.2
  have HM := hideT' hM
  clear x1 x2
  subst e1 e2
  obtain ⟨n, hn⟩ : ∃ n, n = m.cells.length := ⟨_, rfl⟩
  have HN := hideT' hn
  have hmsl : slR mb ms = .slice (some ⟨mb, 0, none⟩) n n := by rw [slR, hml, hn]
  rw [hmsl]
  rw [← hn] at hl1 HM hml ⊢
  have hmk := make_int n (by omega)
  have hz := zero_hp.1
  have hzc := zero_cell.1
  have hmbl := hMD.lt
  obtain ⟨i1, hi1, hz10, hz11, hz12⟩ := info_parts info_cell
  obtain ⟨i2, hi2, hz20, hz21, hz22⟩ := info_parts info_int
  obtain ⟨wA, hwA⟩ : ∃ wA, wA = (((w.alloc (.cells #[.int .i64 m.old, .slice o1 n c1, .slice o2 m.roots.length c2] 48)).alloc (.cells #[.int .i64 0, .slice none 0 0, .slice none 0 0] 48)).alloc (.cells ((List.replicate n (0 : Int)).flatMap intL).toArray 3)).alloc (.cells #[.int .i64 0, .slice none 0 0, .slice none 0 0] 48) := ⟨_, rfl⟩
  have hBA : Below w.heap.size w wA := by rw [hwA]; exact ((((Below.refl _ w).alloc (Nat.le_refl _) _).alloc (by simp) _).alloc (by simp; omega) _).alloc (by simp; omega) _
  have hsA : wA.heap.size = w.heap.size + 4 := by rw [hwA]; simp
  have a0 : RowAt wA w.heap.size 48 #[.int .i64 m.old, .slice o1 n c1, .slice o2 m.roots.length c2] := by rw [hwA]; exact RowAt.old (RowAt.old (RowAt.old (RowAt.new _ _ _) _) _) _
  have a1 : RowAt wA (w.heap.size + 1) 48 #[.int .i64 0, .slice none 0 0, .slice none 0 0] := by
    rw [hwA]
    have := RowAt.new (w.alloc (.cells #[.int .i64 m.old, .slice o1 n c1, .slice o2 m.roots.length c2] 48)) 48 #[.int .i64 0, .slice none 0 0, .slice none 0 0]
    rw [World.size_alloc] at this
    exact RowAt.old (RowAt.old this _) _
  have a2 : RecAt wA (w.heap.size + 2) 3 intL (List.replicate n 0) := by
    rw [hwA]
    have := RowAt.new ((w.alloc (.cells #[.int .i64 m.old, .slice o1 n c1, .slice o2 m.roots.length c2] 48)).alloc (.cells #[.int .i64 0, .slice none 0 0, .slice none 0 0] 48)) 3 ((List.replicate n (0 : Int)).flatMap intL).toArray
    simp only [World.size_alloc] at this
    exact RowAt.old this _
  have a3 : RowAt wA (w.heap.size + 3) 48 #[.int .i64 0, .slice none 0 0, .slice none 0 0] := by
    rw [hwA]
    have := RowAt.new (((w.alloc (.cells #[.int .i64 m.old, .slice o1 n c1, .slice o2 m.roots.length c2] 48)).alloc (.cells #[.int .i64 0, .slice none 0 0, .slice none 0 0] 48)).alloc (.cells ((List.replicate n (0 : Int)).flatMap intL).toArray 3)) 48 #[.int .i64 0, .slice none 0 0, .slice none 0 0]
    simp only [World.size_alloc] at this
    exact this
  have h0 : MoI m ms w n o1 o2 c1 c2 0 wA := ⟨a0, a1, by have : (moveTo m.cells ms 0).1 = List.replicate n 0 := (by rw [HN.out]; rfl); rw [this]; exact a2, .slice none 0 0, a3, World.ownsRow_nil _ _ _ _⟩
  have H0 := hideT' (And.intro h0 (And.intro (RowAt.below hMD hBA hmbl) hBA))
  have HWA := hideT' hwA
  have HRT := hideT' hrt
  have HCL := hideT' hcl
  have HML := hideT' hml
  clear hn hM hMD hrt hcl hmsl a0 a1 a2 a3 h0 hBA hml
  go_enter Try.func84, Try.ntmps84
  go_wp2_with fail
  rw [← HWA.out]
  clear hmk
  go_loopg [19] n (fun g i wr => ∃ k : Nat, g = n - k ∧ k ≤ n ∧ i = .int .i64 (k : Int) ∧ MoI m ms w n o1 o2 c1 c2 k wr ∧ RecAt wr mb 4 boolL ms ∧ Below w.heap.size w wr ∧ w.heap.size + 4 ≤ wr.heap.size)
  case atStart => exact ⟨0, rfl, by omega, by go_num, H0.out.1, H0.out.2.1, H0.out.2.2, by omega⟩
  case round =>
    obtain ⟨k, hg, hk, rfl, ⟨hH, hZ, hD, u, hO, hown⟩, hMD, hW, hsz⟩ := hrel
    obtain ⟨ou, cu, hu⟩ := own_formX hown
    subst hu
    have f1 : wr.cell? ⟨w.heap.size, 1, none⟩ = some (.slice o1 n c1) := by rw [cell_of_row wr _ _ _ _ _ hH]; rfl
    have f2 : wr.cell? ⟨w.heap.size, 2, none⟩ = some (.slice o2 m.roots.length c2) := by rw [cell_of_row wr _ _ _ _ _ hH]; rfl
    by_cases hlt : (k : Int) < (n : Int)
    · have hk' : k < n := by omega
      have hbit := bool_cell hMD (i := k) (by rw [HML.out]; exact hk')
      have hkl := (moveTo_len m.cells ms k).2
      have HTL : Hid ((moveTo m.cells ms k).1.length = n) := by unfold Hid; rw [(moveTo_len m.cells ms k).1, HN.out]
      have hmt : moveTo m.cells ms (k + 1) = if bAt ms k then ((moveTo m.cells ms k).1.set k ((moveTo m.cells ms k).2.length : Int), (moveTo m.cells ms k).2 ++ [movC (moveTo m.cells ms k).1 (m.cells.getD k default)]) else moveTo m.cells ms k := rfl
      have hpair := pair_at HCL.out (show k < m.cells.length by have := HN.out; omega)
      obtain ⟨d, hd⟩ : ∃ d, d = m.cells.getD k default := ⟨_, rfl⟩
      obtain ⟨lf, kk, a, cc⟩ := d
      obtain ⟨g1, hgo, q0, q1, q2, q3⟩ := (HM.out.1.below hW).cells4 (show k < m.cells.length by have := HN.out; omega) hd
      subst hgo
      rw [← hd] at hpair hmt
      have e11 : wr.cell? ⟨w.heap.size + 1 + 1 + 1, 1, none⟩ = some (.slice ou (moveTo m.cells ms k).2.length cu) := by rw [cell_of_row wr _ _ _ _ _ hO]; rfl
      have b11 : mb < wr.heap.size := hMD.lt
      have b12 : w.heap.size + 1 + 1 < wr.heap.size := by omega
      have b13 : w.heap.size + 1 + 1 + 1 < wr.heap.size := by omega
      obtain ⟨q, hq⟩ : ∃ q, q = bAt ms k := ⟨_, rfl⟩
      rw [← hq] at hbit hmt
      clear hq hd
      cases q with
      | false =>
        have HMT : Hid (moveTo m.cells ms (k + 1) = moveTo m.cells ms k) := by unfold Hid; rw [hmt]; rfl
        have HX := hideT' (And.intro (And.intro hH (And.intro hZ (And.intro hD (And.intro hO hown)))) (And.intro hMD hW))
        clear hmt hpair hH hZ hD hO hown hMD hW
        go_wp2
        go_roundg (n - (k + 1))
        case measure => omega
        case rel =>
          obtain ⟨⟨hH, hZ, hD, hO, hown⟩, hMD, hW⟩ := HX.out
          refine ⟨k + 1, rfl, by omega, by go_num, ⟨hH.old _, hZ.old _, ?_, .slice ou (moveTo m.cells ms k).2.length cu, hO.old _, ?_⟩, RowAt.old hMD _, hW.alloc hW.size _, by simp; omega⟩
          · rw [HMT.out]; exact RowAt.old hD _
          · rw [HMT.out]; exact hown.alloc _
      | true =>
      cases lf with
      | true =>
        have HMT : Hid (moveTo m.cells ms (k + 1) = ((moveTo m.cells ms k).1.set k ((moveTo m.cells ms k).2.length : Int), (moveTo m.cells ms k).2 ++ [(true, kk, a, cc)])) := by unfold Hid; rw [hmt]; rfl
        clear hmt hpair
        have hcn := RowAt.new wr 59 #[.bool true, .int .i64 kk, .int .i64 a, .int .i64 cc]
        have HX := hideT' (And.intro hcn (And.intro (RowAt.old hO (.cells #[.bool true, .int .i64 kk, .int .i64 a, .int .i64 cc] 59)) (And.intro (RowAt.old hH (.cells #[.bool true, .int .i64 kk, .int .i64 a, .int .i64 cc] 59)) (RowAt.old hZ (.cells #[.bool true, .int .i64 kk, .int .i64 a, .int .i64 cc] 59)))))
        have HOW := hideT' (hown.alloc (.cells #[.bool true, .int .i64 kk, .int .i64 a, .int .i64 cc] 59))
        have HD1 := hideT' (RowAt.old hD (.cells #[.bool true, .int .i64 kk, .int .i64 a, .int .i64 cc] 59))
        have HMD1 := hideT' (RowAt.old hMD (.cells #[.bool true, .int .i64 kk, .int .i64 a, .int .i64 cc] 59))
        have HW1 := hideT' (hW.alloc hW.size (.cells #[.bool true, .int .i64 kk, .int .i64 a, .int .i64 cc] 59))
        clear hcn hO hH hZ hown hD hMD hW
        go_wp2_with (first | (refine store_rec1 rfl 3 _ _ rfl rfl (fun x : Int => .int .i64 x) (fun _ => rfl) size1_int (w.heap.size + 2) k ((moveTo m.cells ms k).2.length : Int) rfl rfl _ HD1.out (by rw [HTL.out]; omega) ?_; intro w3 hD3 hg3 hs3e; have hs3 : wr.heap.size + 1 ≤ w3.heap.size := (by rw [hs3e]; simp); clear hs3e; have hc3 := RowAt.grown HX.out.1 hg3 (by intro e; injection e; omega); have e0 : w3.cell? ⟨wr.heap.size, 0, none⟩ = some (.bool true) := (by rw [cell_of_row w3 _ _ _ _ _ hc3]; rfl); have e1 : w3.cell? ⟨wr.heap.size, 1, none⟩ = some (.int .i64 kk) := (by rw [cell_of_row w3 _ _ _ _ _ hc3]; rfl); have e2 : w3.cell? ⟨wr.heap.size, 2, none⟩ = some (.int .i64 a) := (by rw [cell_of_row w3 _ _ _ _ _ hc3]; rfl); have e3 : w3.cell? ⟨wr.heap.size, 3, none⟩ = some (.int .i64 cc) := (by rw [cell_of_row w3 _ _ _ _ _ hc3]; rfl); have hO3 := RowAt.grown HX.out.2.1 hg3 (by intro e; injection e; omega); have e4 : w3.cell? ⟨w.heap.size + 1 + 1 + 1, 1, none⟩ = some (.slice ou (moveTo m.cells ms k).2.length cu) := (by rw [cell_of_row w3 _ _ _ _ _ hO3]; rfl); have hw3 : w3.ownsRow (w.heap.size + 4) 59 4 (.slice ou (moveTo m.cells ms k).2.length cu) (moveTo m.cells ms k).2.length ((moveTo m.cells ms k).2.flatMap cellL) := HOW.out.kept hg3 (.inr (fun e => by have := (HOW.out.lt _ e).1; omega))) | (at_builtin; refine append_own3 _ rfl _ _ 28 rfl (w.heap.size + 4) 59 i1 (.agg #[.bool false, .int .i64 0, .int .i64 0, .int .i64 0]) 4 32 Try.underlying28 hi1 hz10 hz11 hz12 rfl (by decide) _ _ _ rfl (hw3.alloc _) ⟨w3.heap.size, 0, none⟩ 1 1 (cellL ((true, kk, a, cc))) rfl rfl (cells4_new w3 _) (cellL_one _) (by decide) (by unfold maxLen; omega) (by omega) (by rw [World.size_alloc]; omega) ?_; intro v5 w5 hown5 hg5 _; obtain ⟨o5, c5, hv5⟩ := own_formX hown5; subst hv5; have hO5 := RowAt.grown (hO3.old (.cells #[.bool true, .int .i64 kk, .int .i64 a, .int .i64 cc] 59)) hg5 (fun e => by have := (hw3.lt _ e.symm).1; omega)) | (refine store_at rfl 28 _ _ rfl rfl (w.heap.size + 3) 1 _ rfl rfl size_slcell rfl 48 _ hO5 (show 1 < 3 by omega) ?_; intro w6 hO6 hg6 hs6))
        go_roundg (n - (k + 1))
        case measure => omega
        case rel =>
          have hne : ∀ b, b < w.heap.size + 4 → some b ≠ (Value.slice ou (moveTo m.cells ms k).2.length cu).ownBlock := fun b hb e => by have := (hw3.lt _ e.symm).1; omega
          have step : ∀ b t (cs : Array Value), b ≠ w.heap.size + 2 → b ≠ w.heap.size + 3 → b < w.heap.size + 4 → RowAt (wr.alloc (.cells #[.bool true, .int .i64 kk, .int .i64 a, .int .i64 cc] 59)) b t cs → RowAt w6 b t cs := fun b t cs h1 h2 h3 h => RowAt.grown (RowAt.grown (RowAt.old (RowAt.grown h hg3 (by intro e; injection e with e; exact h1 e)) _) hg5 (hne b h3)) hg6 (by intro e; injection e with e; exact h2 e)
          have hD6 : RecAt w6 (w.heap.size + 2) 3 intL ((moveTo m.cells ms k).1.set k ((moveTo m.cells ms k).2.length : Int)) := RowAt.grown (RowAt.grown (RowAt.old hD3 _) hg5 (hne _ (by omega))) hg6 (by intro e; injection e; omega)
          have hmd : RecAt w6 mb 4 boolL ms := step mb _ _ (by omega) (by omega) (by omega) HMD1.out
          have hs5 := hg5.size
          simp only [World.size_alloc] at hs5
          have hown6 : w6.ownsRow (w.heap.size + 4) 59 4 (.slice o5 ((moveTo m.cells ms k).2.length + 1) c5) ((moveTo m.cells ms k).2.length + 1) ((moveTo m.cells ms k).2.flatMap cellL ++ cellL ((true, kk, a, cc))) := hown5.kept hg6 (.inr (fun e => by have := (hown5.lt _ e).1; omega))
          refine ⟨k + 1, rfl, by omega, by go_num, ⟨step _ _ _ (by omega) (by omega) (by omega) HX.out.2.2.1, step _ _ _ (by omega) (by omega) (by omega) HX.out.2.2.2, ?_, .slice o5 ((moveTo m.cells ms k).2.length + 1) c5, hO6, ?_⟩, hmd, ?_, by omega⟩
          · rw [HMT.out]; exact hD6
          · rw [HMT.out]
            show World.ownsRow _ _ _ _ _ ((moveTo m.cells ms k).2 ++ [(true, kk, a, cc)]).length _
            rw [List.length_append, List.length_singleton, List.flatMap_append]
            simpa using hown6
          · refine ((((HW1.out.grown hg3 (by simp; omega) (fun j e => by cases e; omega)).alloc (by omega) _).grown hg5 (by simp; omega) (fun j e => by have := (hw3.lt _ e).1; omega)).grown hg6 (by omega) (fun j e => by cases e; omega))
      | false =>
        obtain ⟨hn0, A, C, hA, hC, hAi, hCi⟩ := hpair rfl
        simp only at hn0 hA hC
        obtain ⟨tA, htA⟩ : ∃ t, t = (moveTo m.cells ms k).1.getD A default := ⟨_, rfl⟩
        obtain ⟨tC, htC⟩ : ∃ t, t = (moveTo m.cells ms k).1.getD C default := ⟨_, rfl⟩
        have HMT : Hid (moveTo m.cells ms (k + 1) = ((moveTo m.cells ms k).1.set k ((moveTo m.cells ms k).2.length : Int), (moveTo m.cells ms k).2 ++ [(false, 0, tA, tC)])) := by
          unfold Hid; rw [hmt, htA, htC]
          simp only [if_true, movC, hA, hC, hn0, Int.toNat_natCast]
          rfl
        subst hn0 hA hC
        have sA : wr.cell? ⟨w.heap.size + 1 + 1, A, none⟩ = some (.int .i64 tA) := by rw [htA]; exact int_cell hD (by rw [HTL.out]; omega)
        have sC : wr.cell? ⟨w.heap.size + 1 + 1, C, none⟩ = some (.int .i64 tC) := by rw [htC]; exact int_cell hD (by rw [HTL.out]; omega)
        have hAn : (A : Int) < (n : Int) := by omega
        have hCn : (C : Int) < (n : Int) := by omega
        clear hmt hpair htA htC
        have hcn := RowAt.new wr 59 #[.bool false, .int .i64 0, .int .i64 tA, .int .i64 tC]
        have HX := hideT' (And.intro hcn (And.intro (RowAt.old hO (.cells #[.bool false, .int .i64 0, .int .i64 tA, .int .i64 tC] 59)) (And.intro (RowAt.old hH (.cells #[.bool false, .int .i64 0, .int .i64 tA, .int .i64 tC] 59)) (RowAt.old hZ (.cells #[.bool false, .int .i64 0, .int .i64 tA, .int .i64 tC] 59)))))
        have HOW := hideT' (hown.alloc (.cells #[.bool false, .int .i64 0, .int .i64 tA, .int .i64 tC] 59))
        have HD1 := hideT' (RowAt.old hD (.cells #[.bool false, .int .i64 0, .int .i64 tA, .int .i64 tC] 59))
        have HMD1 := hideT' (RowAt.old hMD (.cells #[.bool false, .int .i64 0, .int .i64 tA, .int .i64 tC] 59))
        have HW1 := hideT' (hW.alloc hW.size (.cells #[.bool false, .int .i64 0, .int .i64 tA, .int .i64 tC] 59))
        clear hcn hO hH hZ hown hD hMD hW
        go_wp2_with (first | (refine store_rec1 rfl 3 _ _ rfl rfl (fun x : Int => .int .i64 x) (fun _ => rfl) size1_int (w.heap.size + 2) k ((moveTo m.cells ms k).2.length : Int) rfl rfl _ HD1.out (by rw [HTL.out]; omega) ?_; intro w3 hD3 hg3 hs3e; have hs3 : wr.heap.size + 1 ≤ w3.heap.size := (by rw [hs3e]; simp); clear hs3e; have hc3 := RowAt.grown HX.out.1 hg3 (by intro e; injection e; omega); have e0 : w3.cell? ⟨wr.heap.size, 0, none⟩ = some (.bool false) := (by rw [cell_of_row w3 _ _ _ _ _ hc3]; rfl); have e1 : w3.cell? ⟨wr.heap.size, 1, none⟩ = some (.int .i64 0) := (by rw [cell_of_row w3 _ _ _ _ _ hc3]; rfl); have e2 : w3.cell? ⟨wr.heap.size, 2, none⟩ = some (.int .i64 tA) := (by rw [cell_of_row w3 _ _ _ _ _ hc3]; rfl); have e3 : w3.cell? ⟨wr.heap.size, 3, none⟩ = some (.int .i64 tC) := (by rw [cell_of_row w3 _ _ _ _ _ hc3]; rfl); have hO3 := RowAt.grown HX.out.2.1 hg3 (by intro e; injection e; omega); have e4 : w3.cell? ⟨w.heap.size + 1 + 1 + 1, 1, none⟩ = some (.slice ou (moveTo m.cells ms k).2.length cu) := (by rw [cell_of_row w3 _ _ _ _ _ hO3]; rfl); have hw3 : w3.ownsRow (w.heap.size + 4) 59 4 (.slice ou (moveTo m.cells ms k).2.length cu) (moveTo m.cells ms k).2.length ((moveTo m.cells ms k).2.flatMap cellL) := HOW.out.kept hg3 (.inr (fun e => by have := (HOW.out.lt _ e).1; omega))) | (at_builtin; refine append_own3 _ rfl _ _ 28 rfl (w.heap.size + 4) 59 i1 (.agg #[.bool false, .int .i64 0, .int .i64 0, .int .i64 0]) 4 32 Try.underlying28 hi1 hz10 hz11 hz12 rfl (by decide) _ _ _ rfl (hw3.alloc _) ⟨w3.heap.size, 0, none⟩ 1 1 (cellL ((false, 0, tA, tC))) rfl rfl (cells4_new w3 _) (cellL_one _) (by decide) (by unfold maxLen; omega) (by omega) (by rw [World.size_alloc]; omega) ?_; intro v5 w5 hown5 hg5 _; obtain ⟨o5, c5, hv5⟩ := own_formX hown5; subst hv5; have hO5 := RowAt.grown (hO3.old (.cells #[.bool false, .int .i64 0, .int .i64 tA, .int .i64 tC] 59)) hg5 (fun e => by have := (hw3.lt _ e.symm).1; omega)) | (refine store_at rfl 28 _ _ rfl rfl (w.heap.size + 3) 1 _ rfl rfl size_slcell rfl 48 _ hO5 (show 1 < 3 by omega) ?_; intro w6 hO6 hg6 hs6))
        go_roundg (n - (k + 1))
        case measure => omega
        case rel =>
          have hne : ∀ b, b < w.heap.size + 4 → some b ≠ (Value.slice ou (moveTo m.cells ms k).2.length cu).ownBlock := fun b hb e => by have := (hw3.lt _ e.symm).1; omega
          have step : ∀ b t (cs : Array Value), b ≠ w.heap.size + 2 → b ≠ w.heap.size + 3 → b < w.heap.size + 4 → RowAt (wr.alloc (.cells #[.bool false, .int .i64 0, .int .i64 tA, .int .i64 tC] 59)) b t cs → RowAt w6 b t cs := fun b t cs h1 h2 h3 h => RowAt.grown (RowAt.grown (RowAt.old (RowAt.grown h hg3 (by intro e; injection e with e; exact h1 e)) _) hg5 (hne b h3)) hg6 (by intro e; injection e with e; exact h2 e)
          have hD6 : RecAt w6 (w.heap.size + 2) 3 intL ((moveTo m.cells ms k).1.set k ((moveTo m.cells ms k).2.length : Int)) := RowAt.grown (RowAt.grown (RowAt.old hD3 _) hg5 (hne _ (by omega))) hg6 (by intro e; injection e; omega)
          have hmd : RecAt w6 mb 4 boolL ms := step mb _ _ (by omega) (by omega) (by omega) HMD1.out
          have hs5 := hg5.size
          simp only [World.size_alloc] at hs5
          have hown6 : w6.ownsRow (w.heap.size + 4) 59 4 (.slice o5 ((moveTo m.cells ms k).2.length + 1) c5) ((moveTo m.cells ms k).2.length + 1) ((moveTo m.cells ms k).2.flatMap cellL ++ cellL ((false, 0, tA, tC))) := hown5.kept hg6 (.inr (fun e => by have := (hown5.lt _ e).1; omega))
          refine ⟨k + 1, rfl, by omega, by go_num, ⟨step _ _ _ (by omega) (by omega) (by omega) HX.out.2.2.1, step _ _ _ (by omega) (by omega) (by omega) HX.out.2.2.2, ?_, .slice o5 ((moveTo m.cells ms k).2.length + 1) c5, hO6, ?_⟩, hmd, ?_, by omega⟩
          · rw [HMT.out]; exact hD6
          · rw [HMT.out]
            show World.ownsRow _ _ _ _ _ ((moveTo m.cells ms k).2 ++ [(false, 0, tA, tC)]).length _
            rw [List.length_append, List.length_singleton, List.flatMap_append]
            simpa using hown6
          · refine ((((HW1.out.grown hg3 (by simp; omega) (fun j e => by cases e; omega)).alloc (by omega) _).grown hg5 (by simp; omega) (fun j e => by have := (hw3.lt _ e).1; omega)).grown hg6 (by omega) (fun j e => by cases e; omega))
    · have hkn : k = n := by omega
      subst hkn
      obtain ⟨to, hto⟩ : ∃ to, to = (moveTo m.cells ms k).1 := ⟨_, rfl⟩
      obtain ⟨out, hout⟩ : ∃ out, out = (moveTo m.cells ms k).2 := ⟨_, rfl⟩
      have htl : to.length = k := by rw [hto, (moveTo_len m.cells ms k).1, HN.out]
      have hol : out.length ≤ k := by rw [hout]; exact (moveTo_len m.cells ms k).2
      have HMM : Hid (moveM m ms = ⟨(out.length : Int), out, movR to m.roots⟩) := by unfold Hid moveM; rw [← HN.out, ← hto, ← hout]
      rw [← hto] at hD
      rw [← hout] at hO hown
      have HTL := hideT' htl
      have H1 := hideT' (And.intro (And.intro hH (And.intro hZ (And.intro hD (And.intro hO hown)))) (And.intro hW hsz))
      clear hto hout htl hH hZ hD hO hown hMD hW hsz f1
      go_wp2_with fail
      go_loopg [60] m.roots.length (fun g i wr => ∃ j : Nat, g = m.roots.length - j ∧ j ≤ m.roots.length ∧ i = .int .i64 (j : Int) ∧ (RowAt wr w.heap.size 48 #[.int .i64 m.old, .slice o1 k c1, .slice o2 m.roots.length c2] ∧ RowAt wr (w.heap.size + 1) 48 #[.int .i64 0, .slice none 0 0, .slice none 0 0] ∧ RecAt wr (w.heap.size + 2) 3 intL to ∧ ∃ u, RowAt wr (w.heap.size + 3) 48 #[.int .i64 0, .slice ou out.length cu, u] ∧ wr.ownsRow (w.heap.size + 4) 59 4 (.slice ou out.length cu) out.length (out.flatMap cellL) ∧ wr.ownsRow (w.heap.size + 4) 3 1 u (movR to (m.roots.take j)).length ((movR to (m.roots.take j)).flatMap intL)) ∧ Below w.heap.size w wr ∧ w.heap.size + 4 ≤ wr.heap.size)
      case atStart =>
        obtain ⟨⟨hH, hZ, hD, hO, hown⟩, hW, hsz⟩ := H1.out
        exact ⟨0, rfl, by omega, by go_num, ⟨hH, hZ, hD, .slice none 0 0, hO, hown, World.ownsRow_nil _ _ _ _⟩, hW, hsz⟩
      case round =>
        clear f2
        obtain ⟨j, hg2, hj, rfl, ⟨hH, hZ, hD, u, hO, hown, hown2⟩, hW, hsz⟩ := hrel
        obtain ⟨o9, c9, hu⟩ := own_formX hown2
        subst hu
        by_cases hltj : (j : Int) < (m.roots.length : Int)
        · have hj' : j < m.roots.length := by omega
          obtain ⟨r, hr, hrl⟩ := HRT.out j hj'
          obtain ⟨o', cap', ee, hin⟩ := (HM.out.2.below hW)
          cases ee
          obtain ⟨g2, rfl, hgl, hcl2⟩ := hin (by intro e; rw [e] at hj'; simp at hj')
          have hcell : wr.cell? ⟨g2, j, none⟩ = some (.int .i64 (r : Int)) := by
            have := hcl2 j 0 (.int .i64 (m.roots.getD j default)) hj' rfl
            rwa [Nat.mul_one, Nat.add_zero, hr] at this
          have hrn : (r : Int) < (k : Int) := by have := HN.out; omega
          have hjl : (movR to (m.roots.take j)).length = j := by simp [movR]; omega
          have HTK : Hid (movR to (m.roots.take (j + 1)) = movR to (m.roots.take j) ++ [to.getD r default]) := by unfold Hid; rw [movR_take hj', hr]; rfl
          have H2 := hideT' (And.intro (And.intro hH (And.intro hZ (And.intro hD (And.intro hO (And.intro hown hown2))))) (And.intro hW hsz))
          have HJL := hideT' hjl
          clear hr hrl hin hcl2 hH hZ hD hO hown hown2 hW hsz hjl H1
          go_wp2_with fail
          obtain ⟨⟨hH, hZ, hD, hO, hown, hown2⟩, hW, hsz⟩ := H2.out
          have hO0 : RowAt wr.drew (w.heap.size + 3) 48 #[.int .i64 0, .slice ou out.length cu, .slice o9 (movR to (m.roots.take j)).length c9] := hO
          have hS : ∀ L, LateAll [(9, fun w' => w'.cell? ⟨w.heap.size + 3, 2, none⟩ = some (.slice o9 (movR to (m.roots.take j)).length c9))] (fun w' => RecAt w' (w.heap.size + 2) 3 intL to) L wr.drew := fun L => ⟨hD, fun p hp => .inr (by simp only [List.mem_cons, List.not_mem_nil, or_false] at hp; subst hp; show World.cell? _ ⟨w.heap.size + 3, _, none⟩ = some _; rw [cell_of_row _ _ _ _ _ _ hO0]; rfl)⟩
          refine many_begin [(9, fun w' => w'.cell? ⟨w.heap.size + 3, 2, none⟩ = some (.slice o9 (movR to (m.roots.take j)).length c9))] (fun w' => RecAt w' (w.heap.size + 2) 3 intL to) (by kernel_rfl) ?_
          refine many_val 0 (some 64) rfl rfl (by kernel_rfl) (by kernel_rfl) (by kernel_rfl) [] (by kernel_rfl) (by simp) noPanic_put rfl (.pointer (some ⟨w.heap.size + 3, 2, none⟩)) (fun _ _ => by go_simp) (hS _) ?_
          simp only [Act.put, List.setIfInBounds_toArray, List.set_cons_zero, List.set_cons_succ]
          refine many_val 1 (some 65) rfl rfl (by kernel_rfl) (by kernel_rfl) (by kernel_rfl) [9] (by kernel_rfl) (by simp) noPanic_put rfl (.slice o9 (movR to (m.roots.take j)).length c9) (fun w' h => run_cell1 (.tmp 64) 23 rfl ⟨w.heap.size + 3, 2, none⟩ rfl _ Try.underlying23 rfl (h.2 _ (List.mem_cons_self ..) (by simp))) (hS _) ?_
          simp only [Act.put, List.setIfInBounds_toArray, List.set_cons_zero, List.set_cons_succ]
          refine many_val 2 (some 66) rfl rfl (by kernel_rfl) (by kernel_rfl) (by kernel_rfl) [] (by kernel_rfl) (by simp) noPanic_put rfl (.slice (some ⟨w.heap.size + 2, 0, none⟩) k k) (fun _ _ => by go_simp) (hS _) ?_
          simp only [Act.put, List.setIfInBounds_toArray, List.set_cons_zero, List.set_cons_succ]
          refine many_val 3 (some 67) rfl rfl (by kernel_rfl) (by kernel_rfl) (by kernel_rfl) [] (by kernel_rfl) (by simp) noPanic_put rfl (.int .i64 (r : Int)) (fun _ _ => by go_simp) (hS _) ?_
          simp only [Act.put, List.setIfInBounds_toArray, List.set_cons_zero, List.set_cons_succ]
          refine many_val 4 (some 68) rfl rfl (by kernel_rfl) (by kernel_rfl) (by kernel_rfl) [] (by kernel_rfl) (by simp) noPanic_put rfl (.pointer (some ⟨w.heap.size + 2, r, none⟩)) (fun _ _ => by go_simp) (hS _) ?_
          simp only [Act.put, List.setIfInBounds_toArray, List.set_cons_zero, List.set_cons_succ]
          refine many_val 5 (some 69) rfl rfl (by kernel_rfl) (by kernel_rfl) (by kernel_rfl) [] (by kernel_rfl) (by simp) noPanic_put rfl (.int .i64 (to.getD r default)) (fun w' h => run_cell1 (.tmp 68) 3 rfl ⟨w.heap.size + 2, r, none⟩ rfl _ Try.underlying3 rfl (int_cell h.1 (by rw [HTL.out]; omega))) (hS _) ?_
          simp only [Act.put, List.setIfInBounds_toArray, List.set_cons_zero, List.set_cons_succ]
          have hD6 : RecAt (wr.drew.alloc (.cells #[.int .i64 (to.getD r default)] 3)) (w.heap.size + 2) 3 intL to := RowAt.old hD _
          have hO6 : RowAt (wr.drew.alloc (.cells #[.int .i64 (to.getD r default)] 3)) (w.heap.size + 3) 48 #[.int .i64 0, .slice ou out.length cu, .slice o9 (movR to (m.roots.take j)).length c9] := hO0.old _
          have hS6 : ∀ L, LateAll [(9, fun w' => w'.cell? ⟨w.heap.size + 3, 2, none⟩ = some (.slice o9 (movR to (m.roots.take j)).length c9))] (fun w' => RecAt w' (w.heap.size + 2) 3 intL to) L (wr.drew.alloc (.cells #[.int .i64 (to.getD r default)] 3)) := fun L => ⟨hD6, fun p hp => .inr (by simp only [List.mem_cons, List.not_mem_nil, or_false] at hp; subst hp; show World.cell? _ ⟨w.heap.size + 3, _, none⟩ = some _; rw [cell_of_row _ _ _ _ _ _ hO6]; rfl)⟩
          refine many_ready 6 (some 70) (by kernel_rfl) rfl rfl rfl (.slice (some ⟨wr.heap.size, 0, none⟩) 1 1) (wr.drew.alloc (.cells #[.int .i64 (to.getD r default)] 3)) (by go_simp) (hS6 _) ?_
          simp only [Act.put, List.setIfInBounds_toArray, List.set_cons_zero, List.set_cons_succ]
          refine many_one 7 (by kernel_rfl) rfl rfl fun K7 hK7 => ?_
          have hown20 : wr.drew.ownsRow (w.heap.size + 4) 3 1 (.slice o9 (movR to (m.roots.take j)).length c9) (movR to (m.roots.take j)).length ((movR to (m.roots.take j)).flatMap intL) := hown2
          refine append_own3_wp _ _ _ 23 rfl (w.heap.size + 4) 3 i2 (.int .i64 0) 1 8 Try.underlying23 hi2 hz20 hz21 hz22 rfl (by decide) (.slice o9 (movR to (m.roots.take j)).length c9) (movR to (m.roots.take j)).length _ rfl (hown20.alloc _) ⟨wr.heap.size, 0, none⟩ 1 1 [.int .i64 (to.getD r default)] rfl rfl (cell_one_new wr.drew _ _) (oneX_cell _) (by decide) (by have := HJL.out; unfold maxLen; omega) (by have := HJL.out; omega) (by rw [World.size_alloc]; show _ ≤ wr.heap.size + 1; omega) ?_
          intro v7 w7 hown7 hg7 _
          obtain ⟨o7, c7, hv7⟩ := own_formX hown7
          subst hv7
          have hne7 : ∀ b, b < w.heap.size + 4 → some b ≠ (Value.slice o9 (movR to (m.roots.take j)).length c9).ownBlock := fun b hb e => by have := (hown2.lt _ e.symm).1; omega
          have hD7 : RecAt w7 (w.heap.size + 2) 3 intL to := RowAt.grown hD6 hg7 (hne7 _ (by omega))
          have hO7 := hO6.grown hg7 (hne7 _ (by omega))
          have hS7 : ∀ L, LateAll [(9, fun w' => w'.cell? ⟨w.heap.size + 3, 2, none⟩ = some (.slice o9 (movR to (m.roots.take j)).length c9))] (fun w' => RecAt w' (w.heap.size + 2) 3 intL to) L w7 := fun L => ⟨hD7, fun p hp => .inr (by simp only [List.mem_cons, List.not_mem_nil, or_false] at hp; subst hp; show World.cell? _ ⟨w.heap.size + 3, _, none⟩ = some _; rw [cell_of_row _ _ _ _ _ _ hO7]; rfl)⟩
          refine hK7.out _ _ (hS7 _) ?_
          simp only [Act.put, List.setIfInBounds_toArray]
          refine many_ready 8 (some 72) (by kernel_rfl) rfl rfl rfl (.pointer (some ⟨w.heap.size + 3, 2, none⟩)) w7 (by go_simp) (hS7 _) ?_
          simp only [Act.put]
          refine many_one 9 (by kernel_rfl) rfl rfl fun K9 hK9 => ?_
          refine store_at_wp 23 _ _ rfl rfl (w.heap.size + 3) 2 (.slice o7 ((movR to (m.roots.take j)).length + 1) c7) rfl rfl size_ints rfl 48 _ hO7 (show 2 < 3 by omega) ?_
          intro w9 hO9 hg9 hs9
          have hD9 : RecAt w9 (w.heap.size + 2) 3 intL to := RowAt.grown hD7 hg9 (by intro e; injection e; omega)
          refine hK9.out _ _ ⟨hD9, fun p hp => by simp only [List.mem_cons, List.not_mem_nil, or_false] at hp; subst hp; exact .inl rfl⟩ ?_
          refine many_done (by kernel_rfl) ?_ _
          refine NoPanic.normal ?_
          have hs7 := hg7.size
          simp only [World.size_alloc] at hs7
          have hs7' : wr.heap.size + 1 ≤ w7.heap.size := hs7
          have step : ∀ b t (cs : Array Value), b ≠ w.heap.size + 3 → b < w.heap.size + 4 → RowAt wr b t cs → RowAt w9 b t cs := fun b t cs h2 h3 h => RowAt.grown (RowAt.grown (RowAt.old (w := wr.drew) h _) hg7 (hne7 b h3)) hg9 (by intro e; injection e with e; exact h2 e)
          have hown9 : w9.ownsRow (w.heap.size + 4) 59 4 (.slice ou out.length cu) out.length (out.flatMap cellL) := by
            have h1 : wr.drew.ownsRow (w.heap.size + 4) 59 4 (.slice ou out.length cu) out.length (out.flatMap cellL) := hown
            refine ((h1.alloc _).kept hg7 ?_).kept hg9 (.inr (fun e => by have := (hown.lt _ e).1; omega))
            rcases hh : (Value.slice ou out.length cu).ownBlock with _ | g
            · exact .inl rfl
            · exact .inr (fun e => own_apart (by decide) hown hown2 g hh e.symm)
          have hownR : w9.ownsRow (w.heap.size + 4) 3 1 (.slice o7 ((movR to (m.roots.take j)).length + 1) c7) ((movR to (m.roots.take j)).length + 1) ((movR to (m.roots.take j)).flatMap intL ++ [.int .i64 (to.getD r default)]) := hown7.kept hg9 (.inr (fun e => by have := (hown7.lt _ e).1; omega))
          have hB9 : Below w.heap.size w w9 := ((hW.drew.alloc hW.size _).grown hg7 (by rw [World.size_alloc]; show _ ≤ wr.heap.size + 1; omega) (fun b e => by have := (hown2.lt _ e).1; omega)).grown hg9 (by omega) (fun b e => by cases e; omega)
          have H9 := hideT' (And.intro (And.intro (step _ _ _ (by omega) (by omega) hH) (And.intro (step _ _ _ (by omega) (by omega) hZ) (And.intro hD9 (And.intro hO9 (And.intro hown9 hownR))))) hB9)
          clear hH hZ hD hO hown hown2 hW hS hS6 hS7 hO0 hD6 hO6 hown20 hown7 hg7 hne7 hD7 hO7 hO9 hg9 hD9 step hown9 hownR hB9 H2 hcell
          go_wp2
          go_roundg (m.roots.length - (j + 1))
          case measure => omega
          case rel =>
            obtain ⟨⟨b1, b2, b3, b4, b5, b6⟩, b7⟩ := H9.out
            refine ⟨j + 1, rfl, by omega, by go_num, ⟨b1, b2, b3, .slice o7 ((movR to (m.roots.take j)).length + 1) c7, b4, b5, ?_⟩, b7, by omega⟩
            rw [HTK.out, List.length_append, List.length_singleton, List.flatMap_append]
            exact b6
        · have hjr : j = m.roots.length := by omega
          subst hjr
          rw [List.take_length] at hown2 hO
          have d1 : wr.cell? ⟨w.heap.size + 1 + 1 + 1, 1, none⟩ = some (.slice ou out.length cu) := by rw [cell_of_row wr _ _ _ _ _ hO]; rfl
          have H2 := hideT' (And.intro hZ (And.intro hown (And.intro hown2 hW)))
          clear hH hD hown hown2 hW H1
          go_wp2_with (first | (refine store_at rfl 3 _ _ rfl rfl (w.heap.size + 3) 0 _ rfl rfl size1_int rfl 48 _ hO (show 0 < 3 by omega) ?_; intro wd rd hgd hsd; have rd' : RowAt wd (w.heap.size + 3) 48 #[.int .i64 (out.length : Int), .slice ou out.length cu, .slice o9 (movR to m.roots).length c9] := rd; have d0 : wd.cell? ⟨w.heap.size + 1 + 1 + 1, 0, none⟩ = some (.int .i64 (out.length : Int)) := (by rw [cell_of_row wd _ _ _ _ _ rd']; rfl); have d1' : wd.cell? ⟨w.heap.size + 1 + 1 + 1, 1, none⟩ = some (.slice ou out.length cu) := (by rw [cell_of_row wd _ _ _ _ _ rd']; rfl); have d2 : wd.cell? ⟨w.heap.size + 1 + 1 + 1, 2, none⟩ = some (.slice o9 (movR to m.roots).length c9) := (by rw [cell_of_row wd _ _ _ _ _ rd']; rfl); have p1 := RowAt.grown hZ hgd (by intro e; injection e; omega)) | (refine store_3 rfl 48 _ _ rfl rfl zero_hp.2 (w.heap.size + 1) #[.int .i64 (out.length : Int), .slice ou out.length cu, .slice o9 (movR to m.roots).length c9] rfl (hp_one _ _ _ _ _ _ _) rfl rfl _ rfl p1 ?_; intro we hR9 hge hse))
          obtain ⟨hZ', hown, hown2, hW⟩ := H2.out
          refine bodyPost_ret (v := .agg #[.int .i64 (out.length : Int), .slice ou out.length cu, .slice o9 (movR to m.roots).length c9]) (results_cell_row Try.results84 _ _ (w.heap.size + 1) 48 _ (0, 0) _ rfl hR9 Try.underlying48 rfl zero_hp.2) rfl ⟨⟨.slice ou out.length cu, .slice o9 (movR to m.roots).length c9, by rw [HMM.out], ?_, ?_⟩, (hW.grown hgd hW.size (fun b e => by cases e; omega)).grown hge (by omega) (fun b e => by cases e; omega)⟩
          · rw [HMM.out]
            exact own_baseX ((hown.kept hgd (.inr (fun e => by have := (hown.lt _ e).1; omega))).kept hge (.inr (fun e => by have := (hown.lt _ e).1; omega))) (by omega)
          · rw [HMM.out]
            exact own_baseX ((hown2.kept hgd (.inr (fun e => by have := (hown2.lt _ e).1; omega))).kept hge (.inr (fun e => by have := (hown2.lt _ e).1; omega))) (by omega)
end Go.Proofs.Ytoaancgmahdbnaa
