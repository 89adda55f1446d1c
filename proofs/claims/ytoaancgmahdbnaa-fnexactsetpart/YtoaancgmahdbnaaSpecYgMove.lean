/-
  What spec.lhMove leaves.
-/
import Derived.Test.YtoaancgmahdbnaaYgLiveIn
import Derived.Test.YtoaancgmahdbnaaSpecMove
namespace Go.Proofs.Ytoaancgmahdbnaa
open Go.RowKit Go.Shelf BL
set_option linter.unusedVariables false
attribute [local go_sem] Oper.semAt_some

/-- The cells that stay, of the first k, by their new names. -/
def outY (cs : List Cl) (ms : List Bool) (to : List Int) (k : Nat) : List Cl := (idxTo ms k).map (fun i => movC to (cs.getD i default))
theorem outY_succ (cs : List Cl) (ms : List Bool) (to : List Int) (k : Nat) : outY cs ms to (k + 1) = if bAt ms k then outY cs ms to k ++ [movC to (cs.getD k default)] else outY cs ms to k := by
  unfold outY
  rw [idxTo_succ]
  split
  · rw [List.map_append, List.map_singleton]
  · rfl
theorem outY_len (cs : List Cl) (ms : List Bool) (to : List Int) (k : Nat) : (outY cs ms to k).length ≤ k := by
  unfold outY; rw [List.length_map]; exact idxTo_len _ _
theorem keepM_outY (m : Hp) (ms : List Bool) : keepM m ms = ⟨((outY m.cells ms (kepL m.cells (idxTo ms m.cells.length)).1 m.cells.length).length : Int), outY m.cells ms (kepL m.cells (idxTo ms m.cells.length)).1 m.cells.length, movR (kepL m.cells (idxTo ms m.cells.length)).1 m.roots⟩ := by
  have h : (kepL m.cells (idxTo ms m.cells.length)).2.map (movC (kepL m.cells (idxTo ms m.cells.length)).1) = outY m.cells ms (kepL m.cells (idxTo ms m.cells.length)).1 m.cells.length := by
    unfold outY; conv => lhs; rw [kepL_map, List.map_map]
    rfl
  unfold keepM
  rw [← h, List.length_map]
theorem kepL_succ (cs : List Cl) (ms : List Bool) (k : Nat) : (kepL cs (idxTo ms (k + 1))).1 = if bAt ms k then (kepL cs (idxTo ms k)).1.set k ((idxTo ms k).length : Int) else (kepL cs (idxTo ms k)).1 := by
  rw [idxTo_succ]
  split
  · rw [kepL_snoc, (kepL_len cs (idxTo ms k)).2]
  · rfl

set_option maxHeartbeats 8000000 in
set_option maxRecDepth 100000 in
theorem lhMove_any (m : Yg) (hok : sndOk m.h = true) (ms : List Bool) (hml : ms.length = m.h.cells.length) (o1 o2 o3 : Option Addr) (c1 c2 c3 : Nat) (mb : Nat) (w : World) (hM : YgRd w (.slice o1 m.h.cells.length c1) (.slice o2 m.h.roots.length c2) (.slice o3 m.noted.length c3) m) (hMD : RecAt w mb 4 boolL ms) :
    Calls Try.prog 81 #[.agg #[.int .i64 m.h.old, .slice o1 m.h.cells.length c1, .slice o2 m.h.roots.length c2, .slice o3 m.noted.length c3], .slice (some ⟨mb, 0, none⟩) m.h.cells.length m.h.cells.length] w fun e w' => (∃ u1 u2, e = .returned (.agg #[.int .i64 (keepM m.h ms).old, u1, u2, .slice none 0 0]) ∧ OwnR w' w.heap.size u1 59 cellL 4 (keepM m.h ms).cells ∧ OwnR w' w.heap.size u2 3 intL 1 (keepM m.h ms).roots) ∧ Below w.heap.size w w' := by
  obtain ⟨hl1, hl2, _, hcl, hrt⟩ := sndOk_all hok
  have HM := hideT' hM
  obtain ⟨n, hn⟩ : ∃ n, n = m.h.cells.length := ⟨_, rfl⟩
  have HN := hideT' hn
  rw [← hn] at hl1 HM hml hcl ⊢
  have hmk := make_int n (by omega)
  have hz := zero_yg.1
  have hzc := zero_cell.1
  have hmbl := hMD.lt
  obtain ⟨i1, hi1, hz10, hz11, hz12⟩ := info_parts info_cell
  obtain ⟨i2, hi2, hz20, hz21, hz22⟩ := info_parts info_int
  obtain ⟨wA, hwA⟩ : ∃ wA, wA = ((w.alloc (.cells #[.int .i64 m.h.old, .slice o1 n c1, .slice o2 m.h.roots.length c2, .slice o3 m.noted.length c3] 30)).alloc (.cells #[.int .i64 0, .slice none 0 0, .slice none 0 0, .slice none 0 0] 30)).alloc (.cells ((List.replicate n (0 : Int)).flatMap intL).toArray 3) := ⟨_, rfl⟩
  have hBA : Below w.heap.size w wA := by rw [hwA]; exact (((Below.refl _ w).alloc (Nat.le_refl _) _).alloc (by simp) _).alloc (by simp; omega) _
  have hsA : wA.heap.size = w.heap.size + 3 := by rw [hwA]; simp
  have a0 : RowAt wA w.heap.size 30 #[.int .i64 m.h.old, .slice o1 n c1, .slice o2 m.h.roots.length c2, .slice o3 m.noted.length c3] := by rw [hwA]; exact RowAt.old (RowAt.old (RowAt.new _ _ _) _) _
  have a1 : RowAt wA (w.heap.size + 1) 30 #[.int .i64 0, .slice none 0 0, .slice none 0 0, .slice none 0 0] := by
    rw [hwA]
    have := RowAt.new (w.alloc (.cells #[.int .i64 m.h.old, .slice o1 n c1, .slice o2 m.h.roots.length c2, .slice o3 m.noted.length c3] 30)) 30 #[.int .i64 0, .slice none 0 0, .slice none 0 0, .slice none 0 0]
    rw [World.size_alloc] at this
    exact RowAt.old this _
  have a2 : RecAt wA (w.heap.size + 2) 3 intL (kepL m.h.cells (idxTo ms 0)).1 := by
    have e0 : (kepL m.h.cells (idxTo ms 0)).1 = List.replicate n 0 := by rw [HN.out]; rfl
    rw [hwA, e0]
    have := RowAt.new ((w.alloc (.cells #[.int .i64 m.h.old, .slice o1 n c1, .slice o2 m.h.roots.length c2, .slice o3 m.noted.length c3] 30)).alloc (.cells #[.int .i64 0, .slice none 0 0, .slice none 0 0, .slice none 0 0] 30)) 3 ((List.replicate n (0 : Int)).flatMap intL).toArray
    simp only [World.size_alloc] at this
    exact this
  have H0 := hideT' (And.intro a0 (And.intro a1 (And.intro a2 (And.intro (RowAt.below hMD hBA hmbl) hBA))))
  have HWA := hideT' hwA
  have HRT := hideT' hrt
  have HCL := hideT' hcl
  have HML := hideT' hml
  clear hn hM hMD hrt hcl a0 a1 a2 hBA hml hwA
  go_enter Try.func81, Try.ntmps81
  go_wp2_with fail
  rw [← HWA.out]
  clear hmk
  go_loopg [6, 20] n (fun g x i wr => ∃ k : Nat, g = n - k ∧ k ≤ n ∧ (x = .int .i64 ((idxTo ms k).length : Int) ∧ i = .int .i64 (k : Int)) ∧ (RowAt wr w.heap.size 30 #[.int .i64 m.h.old, .slice o1 n c1, .slice o2 m.h.roots.length c2, .slice o3 m.noted.length c3] ∧ RowAt wr (w.heap.size + 1) 30 #[.int .i64 0, .slice none 0 0, .slice none 0 0, .slice none 0 0] ∧ RecAt wr (w.heap.size + 2) 3 intL (kepL m.h.cells (idxTo ms k)).1) ∧ RecAt wr mb 4 boolL ms ∧ Below w.heap.size w wr ∧ w.heap.size + 3 ≤ wr.heap.size)
  case atStart => exact ⟨0, rfl, by omega, ⟨by rfl, by go_num⟩, ⟨H0.out.1, H0.out.2.1, H0.out.2.2.1⟩, H0.out.2.2.2.1, H0.out.2.2.2.2, by omega⟩
  case round =>
    obtain ⟨k, hg, hk, ⟨rfl, rfl⟩, ⟨hH, hZ, hD⟩, hMD, hW, hsz⟩ := hrel
    by_cases hlt : (k : Int) < (n : Int)
    · have hk' : k < n := by omega
      have hbit := bool_cell hMD (i := k) (by rw [HML.out]; exact hk')
      have hkl := idxTo_len ms k
      have HTL : Hid ((kepL m.h.cells (idxTo ms k)).1.length = n) := by unfold Hid; rw [(kepL_len m.h.cells _).1, HN.out]
      have hks := kepL_succ m.h.cells ms k
      have his := idxTo_succ ms k
      obtain ⟨q, hq⟩ : ∃ q, q = bAt ms k := ⟨_, rfl⟩
      rw [← hq] at hbit hks his
      clear hq
      cases q with
      | false =>
        have HS : Hid ((kepL m.h.cells (idxTo ms (k + 1))).1 = (kepL m.h.cells (idxTo ms k)).1 ∧ idxTo ms (k + 1) = idxTo ms k) := ⟨by rw [hks]; rfl, by rw [his]; rfl⟩
        have HX := hideT' (And.intro (And.intro hH (And.intro hZ hD)) (And.intro hMD hW))
        clear hks his hH hZ hD hMD hW
        go_wp2
        go_roundg (n - (k + 1))
        case measure => omega
        case rel =>
          obtain ⟨⟨hH, hZ, hD⟩, hMD, hW⟩ := HX.out
          exact ⟨k + 1, rfl, by omega, ⟨by rw [HS.out.2], by go_num⟩, ⟨hH, hZ, by rw [HS.out.1]; exact hD⟩, hMD, hW, hsz⟩
      | true =>
        have HS : Hid ((kepL m.h.cells (idxTo ms (k + 1))).1 = (kepL m.h.cells (idxTo ms k)).1.set k ((idxTo ms k).length : Int) ∧ (idxTo ms (k + 1)).length = (idxTo ms k).length + 1) := ⟨by rw [hks]; rfl, by rw [his]; simp⟩
        have HX := hideT' (And.intro (And.intro hH (And.intro hZ hD)) (And.intro hMD hW))
        clear hks his hH hZ hD hMD hW
        go_wp2_with (first | (refine store_rec1 rfl 3 _ _ rfl rfl (fun x : Int => .int .i64 x) (fun _ => rfl) size1_int (w.heap.size + 2) k ((idxTo ms k).length : Int) rfl rfl _ HX.out.1.2.2 (by rw [HTL.out]; omega) ?_; intro w3 hD3 hg3 hs3e))
        go_roundg (n - (k + 1))
        case measure => omega
        case rel =>
          obtain ⟨⟨hH, hZ, hD⟩, hMD, hW⟩ := HX.out
          refine ⟨k + 1, rfl, by omega, ⟨?_, by go_num⟩, ⟨hH.grown hg3 (by intro e; injection e; omega), hZ.grown hg3 (by intro e; injection e; omega), ?_⟩, RowAt.grown hMD hg3 (by intro e; injection e; omega), hW.grown hg3 hW.size (fun j e => by cases e; omega), by omega⟩
          · rw [HS.out.2]; go_num
          · rw [HS.out.1]; exact hD3
    · have hkn : k = n := by omega
      subst hkn
      obtain ⟨to, hto⟩ : ∃ to, to = (kepL m.h.cells (idxTo ms k)).1 := ⟨_, rfl⟩
      have htl : to.length = k := by rw [hto, (kepL_len _ _).1, HN.out]
      have hol : (idxTo ms k).length = (outY m.h.cells ms to k).length := by unfold outY; rw [List.length_map]
      have HMM : Hid (keepM m.h ms = ⟨((outY m.h.cells ms to k).length : Int), outY m.h.cells ms to k, movR to m.h.roots⟩) := by unfold Hid; rw [keepM_outY, ← HN.out, ← hto]
      have hol2 := outY_len m.h.cells ms to k
      rw [hol]
      obtain ⟨cnt, hcnt⟩ : ∃ cnt : Nat, cnt = (outY m.h.cells ms to k).length := ⟨_, rfl⟩
      rw [← hcnt] at hol2 ⊢
      rw [← hto] at hD
      have HTL := hideT' htl
      have HCN := hideT' hcnt
      -- the new heap, with its count
      obtain ⟨wB, hwB⟩ : ∃ wB, wB = wr.alloc (.cells #[.int .i64 (cnt : Int), .slice none 0 0, .slice none 0 0, .slice none 0 0] 30) := ⟨_, rfl⟩
      obtain ⟨N3, hN3⟩ : ∃ N3, N3 = wr.heap.size := ⟨_, rfl⟩
      have hsB : wB.heap.size = N3 + 1 := by rw [hwB, hN3]; simp
      have hN3' : w.heap.size + 3 ≤ N3 := by omega
      have hBB : Below w.heap.size w wB := by rw [hwB]; exact hW.alloc hW.size _
      have b0 : RowAt wB w.heap.size 30 #[.int .i64 m.h.old, .slice o1 k c1, .slice o2 m.h.roots.length c2, .slice o3 m.noted.length c3] := by rw [hwB]; exact hH.old _
      have f1 : wr.cell? ⟨w.heap.size, 1, none⟩ = some (.slice o1 k c1) := by rw [cell_of_row wr _ _ _ _ _ hH]; rfl
      have l10 : w.heap.size < wr.heap.size := by omega
      have b1 : RowAt wB (w.heap.size + 1) 30 #[.int .i64 0, .slice none 0 0, .slice none 0 0, .slice none 0 0] := by rw [hwB]; exact hZ.old _
      have b2 : RecAt wB (w.heap.size + 2) 3 intL to := by rw [hwB]; exact RowAt.old hD _
      have b3 : RowAt wB N3 30 #[.int .i64 (cnt : Int), .slice none 0 0, .slice none 0 0, .slice none 0 0] := by rw [hwB, hN3]; exact RowAt.new _ _ _
      have HB := hideT' (And.intro (And.intro b0 (And.intro b1 (And.intro b2 b3))) (And.intro (show RecAt wB mb 4 boolL ms by rw [hwB]; exact RowAt.old hMD _) hBB))
      have HWB := hideT' hwB
      have HN3 := hideT' hN3
      clear hN3 hto hol htl hcnt hH hZ hD hMD hW b0 b1 b2 b3 hBB H0 hwB
      go_wp2_with fail
      rw [← HWB.out, ← HN3.out]
      clear f1 l10
      go_loopg [38] k (fun g i wr => ∃ j : Nat, g = k - j ∧ j ≤ k ∧ i = .int .i64 (j : Int) ∧ (RowAt wr w.heap.size 30 #[.int .i64 m.h.old, .slice o1 k c1, .slice o2 m.h.roots.length c2, .slice o3 m.noted.length c3] ∧ RowAt wr (w.heap.size + 1) 30 #[.int .i64 0, .slice none 0 0, .slice none 0 0, .slice none 0 0] ∧ RecAt wr (w.heap.size + 2) 3 intL to ∧ ∃ u, RowAt wr N3 30 #[.int .i64 (cnt : Int), u, .slice none 0 0, .slice none 0 0] ∧ wr.ownsRow (N3 + 1) 59 4 u (outY m.h.cells ms to j).length ((outY m.h.cells ms to j).flatMap cellL)) ∧ RecAt wr mb 4 boolL ms ∧ Below w.heap.size w wr ∧ N3 + 1 ≤ wr.heap.size)
      case atStart =>
        obtain ⟨⟨b0, b1, b2, b3⟩, hMD, hW⟩ := HB.out
        exact ⟨0, rfl, by omega, by go_num, ⟨b0, b1, b2, .slice none 0 0, b3, World.ownsRow_nil _ _ _ _⟩, hMD, hW, by omega⟩
      case round =>
        clear HB
        obtain ⟨j, hg2, hj, rfl, ⟨hH, hZ, hD, u, hO, hown⟩, hMD, hW, hsz2⟩ := hrel
        obtain ⟨ou, cu, hu⟩ := own_formX hown
        subst hu
        by_cases hlt2 : (j : Int) < (k : Int)
        · have hj' : j < k := by omega
          have hbit := bool_cell hMD (i := j) (by rw [HML.out]; exact hj')
          have hjl := outY_len m.h.cells ms to j
          have hos := outY_succ m.h.cells ms to j
          have hsn := getD_all HCL.out (show j < m.h.cells.length by have := HN.out; omega)
          obtain ⟨d, hd⟩ : ∃ d, d = m.h.cells.getD j default := ⟨_, rfl⟩
          obtain ⟨lf, kk, a, cc⟩ := d
          have hM1 : InR wr (.slice o1 m.h.cells.length c1) cellL 4 m.h.cells := by have := HM.out.1.1.below hW; rw [← HN.out]; exact this
          obtain ⟨g1, hgo, q0, q1, q2, q3⟩ := hM1.cells4 (show j < m.h.cells.length by have := HN.out; omega) hd
          subst hgo
          rw [← hd] at hsn hos
          have e10 : wr.cell? ⟨N3, 1, none⟩ = some (.slice ou (outY m.h.cells ms to j).length cu) := by rw [cell_of_row wr _ _ _ _ _ hO]; rfl
          have l11 : mb < wr.heap.size := hMD.lt
          have l12 : w.heap.size + 1 + 1 < wr.heap.size := by omega
          have l13 : N3 < wr.heap.size := by omega
          obtain ⟨q, hq⟩ : ∃ q, q = bAt ms j := ⟨_, rfl⟩
          rw [← hq] at hbit hos
          clear hq hd hM1
          cases q with
          | false =>
            have HS : Hid (outY m.h.cells ms to (j + 1) = outY m.h.cells ms to j) := by unfold Hid; rw [hos]; rfl
            have HX := hideT' (And.intro (And.intro hH (And.intro hZ (And.intro hD (And.intro hO hown)))) (And.intro hMD hW))
            clear hos hsn hH hZ hD hO hown hMD hW e10
            go_wp2
            go_roundg (k - (j + 1))
            case measure => omega
            case rel =>
              obtain ⟨⟨hH, hZ, hD, hO, hown⟩, hMD, hW⟩ := HX.out
              refine ⟨j + 1, rfl, by omega, by go_num, ⟨hH.old _, hZ.old _, RowAt.old hD _, .slice ou (outY m.h.cells ms to j).length cu, hO.old _, ?_⟩, RowAt.old hMD _, hW.alloc hW.size _, by simp; omega⟩
              rw [HS.out]; exact hown.alloc _
          | true =>
          cases lf with
          | true =>
            have HS : Hid (outY m.h.cells ms to (j + 1) = outY m.h.cells ms to j ++ [(true, kk, a, cc)]) := by unfold Hid; rw [hos]; rfl
            clear hos hsn
            have HX := hideT' (And.intro (RowAt.old hO (.cells #[.bool true, .int .i64 kk, .int .i64 a, .int .i64 cc] 59)) (And.intro (RowAt.old hH (.cells #[.bool true, .int .i64 kk, .int .i64 a, .int .i64 cc] 59)) (RowAt.old hZ (.cells #[.bool true, .int .i64 kk, .int .i64 a, .int .i64 cc] 59))))
            have HOW := hideT' (hown.alloc (.cells #[.bool true, .int .i64 kk, .int .i64 a, .int .i64 cc] 59))
            have HD1 := hideT' (RowAt.old hD (.cells #[.bool true, .int .i64 kk, .int .i64 a, .int .i64 cc] 59))
            have HMD1 := hideT' (RowAt.old hMD (.cells #[.bool true, .int .i64 kk, .int .i64 a, .int .i64 cc] 59))
            have HW1 := hideT' (hW.alloc hW.size (.cells #[.bool true, .int .i64 kk, .int .i64 a, .int .i64 cc] 59))
            have hNe : ∀ b, b < N3 + 1 → some b ≠ (Value.slice ou (outY m.h.cells ms to j).length cu).ownBlock := fun b hb e => by have := (hown.lt _ e.symm).1; omega
            have HNE := hideT' hNe
            have e10a : World.cell? (wr.alloc (.cells #[.bool true, .int .i64 kk, .int .i64 a, .int .i64 cc] 59)) ⟨N3, 1, none⟩ = some (.slice ou (outY m.h.cells ms to j).length cu) := by rw [cell_of_row _ _ _ _ _ _ HX.out.1]; rfl
            clear hO hH hZ hown hD hMD hW hNe
            go_wp2_with (first | (at_builtin; refine append_own3 _ rfl _ _ 28 rfl (N3 + 1) 59 i1 (.agg #[.bool false, .int .i64 0, .int .i64 0, .int .i64 0]) 4 32 Try.underlying28 hi1 hz10 hz11 hz12 rfl (by decide) _ _ _ rfl (HOW.out.alloc _) ⟨wr.heap.size + 1, 0, none⟩ 1 1 (cellL ((true, kk, a, cc))) rfl rfl (by have := cells4_new (wr.alloc (.cells #[.bool true, .int .i64 kk, .int .i64 a, .int .i64 cc] 59)) (true, kk, a, cc); rwa [World.size_alloc] at this) (cellL_one _) (by decide) (by unfold maxLen; omega) (by omega) (by rw [World.size_alloc, World.size_alloc]; omega) ?_; intro v5 w5 hown5 hg5 _; obtain ⟨o5, c5, hv5⟩ := own_formX hown5; subst hv5; have hO5 := RowAt.grown (HX.out.1.old (.cells (cellL ((true, kk, a, cc))).toArray 59)) hg5 (HNE.out _ (by omega))) | (refine store_at rfl 28 _ _ rfl rfl N3 1 _ rfl rfl size_slcell rfl 30 _ hO5 (show 1 < 4 by omega) ?_; intro w6 hO6 hg6 hs6))
            go_roundg (k - (j + 1))
            case measure => omega
            case rel =>
              have step : ∀ b t (cs : Array Value), b ≠ N3 → b < N3 + 1 → RowAt (wr.alloc (.cells #[.bool true, .int .i64 kk, .int .i64 a, .int .i64 cc] 59)) b t cs → RowAt w6 b t cs := fun b t cs h2 h3 h => RowAt.grown (RowAt.grown (RowAt.old h _) hg5 (HNE.out b h3)) hg6 (by intro e; injection e with e; exact h2 e)
              have hs5 := hg5.size
              simp only [World.size_alloc] at hs5
              have hown6 : w6.ownsRow (N3 + 1) 59 4 (.slice o5 ((outY m.h.cells ms to j).length + 1) c5) ((outY m.h.cells ms to j).length + 1) ((outY m.h.cells ms to j).flatMap cellL ++ cellL ((true, kk, a, cc))) := hown5.kept hg6 (.inr (fun e => by have := (hown5.lt _ e).1; omega))
              refine ⟨j + 1, rfl, by omega, by go_num, ⟨step _ _ _ (by omega) (by omega) HX.out.2.1, step _ _ _ (by omega) (by omega) HX.out.2.2, step _ _ _ (by omega) (by omega) HD1.out, .slice o5 ((outY m.h.cells ms to j).length + 1) c5, hO6, ?_⟩, step mb _ _ (by omega) (by omega) HMD1.out, ?_, by omega⟩
              · rw [HS.out]
                show World.ownsRow _ _ _ _ _ (outY m.h.cells ms to j ++ [(true, kk, a, cc)]).length _
                rw [List.length_append, List.length_singleton, List.flatMap_append]
                simpa using hown6
              · refine (((HW1.out.alloc (by simp; omega) _).grown hg5 (by simp; omega) (fun b e => by have := (HOW.out.lt _ e).1; omega)).grown hg6 (by omega) (fun b e => by cases e; omega))
          | false =>
            obtain ⟨hn0, A, C, hA, hC, hAi, hCi⟩ := sndC_pair hsn rfl
            obtain ⟨tA, htA⟩ : ∃ t, t = to.getD A default := ⟨_, rfl⟩
            obtain ⟨tC, htC⟩ : ∃ t, t = to.getD C default := ⟨_, rfl⟩
            have HS : Hid (outY m.h.cells ms to (j + 1) = outY m.h.cells ms to j ++ [(false, 0, tA, tC)]) := by
              unfold Hid; rw [hos, htA, htC]
              simp only [if_true, movC, hA, hC, hn0, Int.toNat_natCast]
              rfl
            subst hn0 hA hC
            have sA : wr.cell? ⟨w.heap.size + 1 + 1, A, none⟩ = some (.int .i64 tA) := by rw [htA]; exact int_cell hD (by rw [HTL.out]; omega)
            have sC : wr.cell? ⟨w.heap.size + 1 + 1, C, none⟩ = some (.int .i64 tC) := by rw [htC]; exact int_cell hD (by rw [HTL.out]; omega)
            have hAn : (A : Int) < (k : Int) := by omega
            have hCn : (C : Int) < (k : Int) := by omega
            clear hos hsn htA htC
            have HX := hideT' (And.intro (RowAt.old hO (.cells #[.bool false, .int .i64 0, .int .i64 tA, .int .i64 tC] 59)) (And.intro (RowAt.old hH (.cells #[.bool false, .int .i64 0, .int .i64 tA, .int .i64 tC] 59)) (RowAt.old hZ (.cells #[.bool false, .int .i64 0, .int .i64 tA, .int .i64 tC] 59))))
            have HOW := hideT' (hown.alloc (.cells #[.bool false, .int .i64 0, .int .i64 tA, .int .i64 tC] 59))
            have HD1 := hideT' (RowAt.old hD (.cells #[.bool false, .int .i64 0, .int .i64 tA, .int .i64 tC] 59))
            have HMD1 := hideT' (RowAt.old hMD (.cells #[.bool false, .int .i64 0, .int .i64 tA, .int .i64 tC] 59))
            have HW1 := hideT' (hW.alloc hW.size (.cells #[.bool false, .int .i64 0, .int .i64 tA, .int .i64 tC] 59))
            have hNe : ∀ b, b < N3 + 1 → some b ≠ (Value.slice ou (outY m.h.cells ms to j).length cu).ownBlock := fun b hb e => by have := (hown.lt _ e.symm).1; omega
            have HNE := hideT' hNe
            have e10a : World.cell? (wr.alloc (.cells #[.bool false, .int .i64 0, .int .i64 tA, .int .i64 tC] 59)) ⟨N3, 1, none⟩ = some (.slice ou (outY m.h.cells ms to j).length cu) := by rw [cell_of_row _ _ _ _ _ _ HX.out.1]; rfl
            clear hO hH hZ hown hD hMD hW hNe
            go_wp2_with (first | (at_builtin; refine append_own3 _ rfl _ _ 28 rfl (N3 + 1) 59 i1 (.agg #[.bool false, .int .i64 0, .int .i64 0, .int .i64 0]) 4 32 Try.underlying28 hi1 hz10 hz11 hz12 rfl (by decide) _ _ _ rfl (HOW.out.alloc _) ⟨wr.heap.size + 1, 0, none⟩ 1 1 (cellL ((false, 0, tA, tC))) rfl rfl (by have := cells4_new (wr.alloc (.cells #[.bool false, .int .i64 0, .int .i64 tA, .int .i64 tC] 59)) (false, 0, tA, tC); rwa [World.size_alloc] at this) (cellL_one _) (by decide) (by unfold maxLen; omega) (by omega) (by rw [World.size_alloc, World.size_alloc]; omega) ?_; intro v5 w5 hown5 hg5 _; obtain ⟨o5, c5, hv5⟩ := own_formX hown5; subst hv5; have hO5 := RowAt.grown (HX.out.1.old (.cells (cellL ((false, 0, tA, tC))).toArray 59)) hg5 (HNE.out _ (by omega))) | (refine store_at rfl 28 _ _ rfl rfl N3 1 _ rfl rfl size_slcell rfl 30 _ hO5 (show 1 < 4 by omega) ?_; intro w6 hO6 hg6 hs6))
            go_roundg (k - (j + 1))
            case measure => omega
            case rel =>
              have step : ∀ b t (cs : Array Value), b ≠ N3 → b < N3 + 1 → RowAt (wr.alloc (.cells #[.bool false, .int .i64 0, .int .i64 tA, .int .i64 tC] 59)) b t cs → RowAt w6 b t cs := fun b t cs h2 h3 h => RowAt.grown (RowAt.grown (RowAt.old h _) hg5 (HNE.out b h3)) hg6 (by intro e; injection e with e; exact h2 e)
              have hs5 := hg5.size
              simp only [World.size_alloc] at hs5
              have hown6 : w6.ownsRow (N3 + 1) 59 4 (.slice o5 ((outY m.h.cells ms to j).length + 1) c5) ((outY m.h.cells ms to j).length + 1) ((outY m.h.cells ms to j).flatMap cellL ++ cellL ((false, 0, tA, tC))) := hown5.kept hg6 (.inr (fun e => by have := (hown5.lt _ e).1; omega))
              refine ⟨j + 1, rfl, by omega, by go_num, ⟨step _ _ _ (by omega) (by omega) HX.out.2.1, step _ _ _ (by omega) (by omega) HX.out.2.2, step _ _ _ (by omega) (by omega) HD1.out, .slice o5 ((outY m.h.cells ms to j).length + 1) c5, hO6, ?_⟩, step mb _ _ (by omega) (by omega) HMD1.out, ?_, by omega⟩
              · rw [HS.out]
                show World.ownsRow _ _ _ _ _ (outY m.h.cells ms to j ++ [(false, 0, tA, tC)]).length _
                rw [List.length_append, List.length_singleton, List.flatMap_append]
                simpa using hown6
              · refine (((HW1.out.alloc (by simp; omega) _).grown hg5 (by simp; omega) (fun b e => by have := (HOW.out.lt _ e).1; omega)).grown hg6 (by omega) (fun b e => by cases e; omega))
        · have hjk : j = k := by omega
          rw [hjk] at hO hown
          obtain ⟨out, hout⟩ : ∃ out, out = outY m.h.cells ms to k := ⟨_, rfl⟩
          rw [← hout] at hO hown HMM HCN
          have hol : out.length ≤ k := by rw [← HCN.out]; exact hol2
          have f2 : wr.cell? ⟨w.heap.size, 2, none⟩ = some (.slice o2 m.h.roots.length c2) := by rw [cell_of_row wr _ _ _ _ _ hH]; rfl
          rw [HCN.out] at hO
          have H1 := hideT' (And.intro (And.intro hH (And.intro hZ (And.intro hD (And.intro hO hown)))) (And.intro hW hsz2))
          clear hout hH hZ hD hO hown hMD hW
          go_wp2_with fail
          go_loopg [73] m.h.roots.length (fun g i wr => ∃ j : Nat, g = m.h.roots.length - j ∧ j ≤ m.h.roots.length ∧ i = .int .i64 (j : Int) ∧ (RowAt wr w.heap.size 30 #[.int .i64 m.h.old, .slice o1 k c1, .slice o2 m.h.roots.length c2, .slice o3 m.noted.length c3] ∧ RowAt wr (w.heap.size + 1) 30 #[.int .i64 0, .slice none 0 0, .slice none 0 0, .slice none 0 0] ∧ RecAt wr (w.heap.size + 2) 3 intL to ∧ ∃ u, RowAt wr (N3) 30 #[.int .i64 (out.length : Int), .slice ou out.length cu, u, .slice none 0 0] ∧ wr.ownsRow (N3 + 1) 59 4 (.slice ou out.length cu) out.length (out.flatMap cellL) ∧ wr.ownsRow (N3 + 1) 3 1 u (movR to (m.h.roots.take j)).length ((movR to (m.h.roots.take j)).flatMap intL)) ∧ Below w.heap.size w wr ∧ N3 + 1 ≤ wr.heap.size)
          case atStart =>
            obtain ⟨⟨hH, hZ, hD, hO, hown⟩, hW, hsz⟩ := H1.out
            exact ⟨0, rfl, by omega, by go_num, ⟨hH, hZ, hD, .slice none 0 0, hO, hown, World.ownsRow_nil _ _ _ _⟩, hW, hsz⟩
          case round =>
            clear f2
            obtain ⟨j, hg2, hj, rfl, ⟨hH, hZ, hD, u, hO, hown, hown2⟩, hW, hsz⟩ := hrel
            obtain ⟨o9, c9, hu⟩ := own_formX hown2
            subst hu
            by_cases hltj : (j : Int) < (m.h.roots.length : Int)
            · have hj' : j < m.h.roots.length := by omega
              obtain ⟨r, hr, hrl⟩ := HRT.out j hj'
              obtain ⟨o', cap', ee, hin⟩ := (HM.out.1.2.below hW)
              cases ee
              obtain ⟨g2, rfl, hgl, hcl2⟩ := hin (by intro e; rw [e] at hj'; simp at hj')
              have hcell : wr.cell? ⟨g2, j, none⟩ = some (.int .i64 (r : Int)) := by
                have := hcl2 j 0 (.int .i64 (m.h.roots.getD j default)) hj' rfl
                rwa [Nat.mul_one, Nat.add_zero, hr] at this
              have hrn : (r : Int) < (k : Int) := by have := HN.out; omega
              have hjl : (movR to (m.h.roots.take j)).length = j := by simp [movR]; omega
              have HTK : Hid (movR to (m.h.roots.take (j + 1)) = movR to (m.h.roots.take j) ++ [to.getD r default]) := by unfold Hid; rw [movR_take hj', hr]; rfl
              have H2 := hideT' (And.intro (And.intro hH (And.intro hZ (And.intro hD (And.intro hO (And.intro hown hown2))))) (And.intro hW hsz))
              have HJL := hideT' hjl
              clear hr hrl hin hcl2 hH hZ hD hO hown hown2 hW hsz hjl H1
              go_wp2_with fail
              obtain ⟨⟨hH, hZ, hD, hO, hown, hown2⟩, hW, hsz⟩ := H2.out
              have hO0 : RowAt wr.drew (N3) 30 #[.int .i64 (out.length : Int), .slice ou out.length cu, .slice o9 (movR to (m.h.roots.take j)).length c9, .slice none 0 0] := hO
              have hS : ∀ L, LateAll [(9, fun w' => w'.cell? ⟨N3, 2, none⟩ = some (.slice o9 (movR to (m.h.roots.take j)).length c9))] (fun w' => RecAt w' (w.heap.size + 2) 3 intL to) L wr.drew := fun L => ⟨hD, fun p hp => .inr (by simp only [List.mem_cons, List.not_mem_nil, or_false] at hp; subst hp; show World.cell? _ ⟨N3, _, none⟩ = some _; rw [cell_of_row _ _ _ _ _ _ hO0]; rfl)⟩
              refine many_begin [(9, fun w' => w'.cell? ⟨N3, 2, none⟩ = some (.slice o9 (movR to (m.h.roots.take j)).length c9))] (fun w' => RecAt w' (w.heap.size + 2) 3 intL to) (by kernel_rfl) ?_
              refine many_val 0 (some 77) rfl rfl (by kernel_rfl) (by kernel_rfl) (by kernel_rfl) [] (by kernel_rfl) (by simp) noPanic_put rfl (.pointer (some ⟨N3, 2, none⟩)) (fun _ _ => by go_simp) (hS _) ?_
              simp only [Act.put, List.setIfInBounds_toArray, List.set_cons_zero, List.set_cons_succ]
              refine many_val 1 (some 78) rfl rfl (by kernel_rfl) (by kernel_rfl) (by kernel_rfl) [9] (by kernel_rfl) (by simp) noPanic_put rfl (.slice o9 (movR to (m.h.roots.take j)).length c9) (fun w' h => run_cell1 (.tmp 77) 23 rfl ⟨N3, 2, none⟩ rfl _ Try.underlying23 rfl (h.2 _ (List.mem_cons_self ..) (by simp))) (hS _) ?_
              simp only [Act.put, List.setIfInBounds_toArray, List.set_cons_zero, List.set_cons_succ]
              refine many_val 2 (some 79) rfl rfl (by kernel_rfl) (by kernel_rfl) (by kernel_rfl) [] (by kernel_rfl) (by simp) noPanic_put rfl (.slice (some ⟨w.heap.size + 2, 0, none⟩) k k) (fun _ _ => by go_simp) (hS _) ?_
              simp only [Act.put, List.setIfInBounds_toArray, List.set_cons_zero, List.set_cons_succ]
              refine many_val 3 (some 80) rfl rfl (by kernel_rfl) (by kernel_rfl) (by kernel_rfl) [] (by kernel_rfl) (by simp) noPanic_put rfl (.int .i64 (r : Int)) (fun _ _ => by go_simp) (hS _) ?_
              simp only [Act.put, List.setIfInBounds_toArray, List.set_cons_zero, List.set_cons_succ]
              refine many_val 4 (some 81) rfl rfl (by kernel_rfl) (by kernel_rfl) (by kernel_rfl) [] (by kernel_rfl) (by simp) noPanic_put rfl (.pointer (some ⟨w.heap.size + 2, r, none⟩)) (fun _ _ => by go_simp) (hS _) ?_
              simp only [Act.put, List.setIfInBounds_toArray, List.set_cons_zero, List.set_cons_succ]
              refine many_val 5 (some 82) rfl rfl (by kernel_rfl) (by kernel_rfl) (by kernel_rfl) [] (by kernel_rfl) (by simp) noPanic_put rfl (.int .i64 (to.getD r default)) (fun w' h => run_cell1 (.tmp 81) 3 rfl ⟨w.heap.size + 2, r, none⟩ rfl _ Try.underlying3 rfl (int_cell h.1 (by rw [HTL.out]; omega))) (hS _) ?_
              simp only [Act.put, List.setIfInBounds_toArray, List.set_cons_zero, List.set_cons_succ]
              have hD6 : RecAt (wr.drew.alloc (.cells #[.int .i64 (to.getD r default)] 3)) (w.heap.size + 2) 3 intL to := RowAt.old hD _
              have hO6 : RowAt (wr.drew.alloc (.cells #[.int .i64 (to.getD r default)] 3)) (N3) 30 #[.int .i64 (out.length : Int), .slice ou out.length cu, .slice o9 (movR to (m.h.roots.take j)).length c9, .slice none 0 0] := hO0.old _
              have hS6 : ∀ L, LateAll [(9, fun w' => w'.cell? ⟨N3, 2, none⟩ = some (.slice o9 (movR to (m.h.roots.take j)).length c9))] (fun w' => RecAt w' (w.heap.size + 2) 3 intL to) L (wr.drew.alloc (.cells #[.int .i64 (to.getD r default)] 3)) := fun L => ⟨hD6, fun p hp => .inr (by simp only [List.mem_cons, List.not_mem_nil, or_false] at hp; subst hp; show World.cell? _ ⟨N3, _, none⟩ = some _; rw [cell_of_row _ _ _ _ _ _ hO6]; rfl)⟩
              refine many_ready 6 (some 83) (by kernel_rfl) rfl rfl rfl (.slice (some ⟨wr.heap.size, 0, none⟩) 1 1) (wr.drew.alloc (.cells #[.int .i64 (to.getD r default)] 3)) (by go_simp) (hS6 _) ?_
              simp only [Act.put, List.setIfInBounds_toArray, List.set_cons_zero, List.set_cons_succ]
              refine many_one 7 (by kernel_rfl) rfl rfl fun K7 hK7 => ?_
              have hown20 : wr.drew.ownsRow (N3 + 1) 3 1 (.slice o9 (movR to (m.h.roots.take j)).length c9) (movR to (m.h.roots.take j)).length ((movR to (m.h.roots.take j)).flatMap intL) := hown2
              refine append_own3_wp _ _ _ 23 rfl (N3 + 1) 3 i2 (.int .i64 0) 1 8 Try.underlying23 hi2 hz20 hz21 hz22 rfl (by decide) (.slice o9 (movR to (m.h.roots.take j)).length c9) (movR to (m.h.roots.take j)).length _ rfl (hown20.alloc _) ⟨wr.heap.size, 0, none⟩ 1 1 [.int .i64 (to.getD r default)] rfl rfl (cell_one_new wr.drew _ _) (oneX_cell _) (by decide) (by have := HJL.out; unfold maxLen; omega) (by have := HJL.out; omega) (by rw [World.size_alloc]; show _ ≤ wr.heap.size + 1; omega) ?_
              intro v7 w7 hown7 hg7 _
              obtain ⟨o7, c7, hv7⟩ := own_formX hown7
              subst hv7
              have hne7 : ∀ b, b < N3 + 1 → some b ≠ (Value.slice o9 (movR to (m.h.roots.take j)).length c9).ownBlock := fun b hb e => by have := (hown2.lt _ e.symm).1; omega
              have hD7 : RecAt w7 (w.heap.size + 2) 3 intL to := RowAt.grown hD6 hg7 (hne7 _ (by omega))
              have hO7 := hO6.grown hg7 (hne7 _ (by omega))
              have hS7 : ∀ L, LateAll [(9, fun w' => w'.cell? ⟨N3, 2, none⟩ = some (.slice o9 (movR to (m.h.roots.take j)).length c9))] (fun w' => RecAt w' (w.heap.size + 2) 3 intL to) L w7 := fun L => ⟨hD7, fun p hp => .inr (by simp only [List.mem_cons, List.not_mem_nil, or_false] at hp; subst hp; show World.cell? _ ⟨N3, _, none⟩ = some _; rw [cell_of_row _ _ _ _ _ _ hO7]; rfl)⟩
              refine hK7.out _ _ (hS7 _) ?_
              simp only [Act.put, List.setIfInBounds_toArray]
              refine many_ready 8 (some 85) (by kernel_rfl) rfl rfl rfl (.pointer (some ⟨N3, 2, none⟩)) w7 (by go_simp) (hS7 _) ?_
              simp only [Act.put]
              refine many_one 9 (by kernel_rfl) rfl rfl fun K9 hK9 => ?_
              refine store_at_wp 23 _ _ rfl rfl (N3) 2 (.slice o7 ((movR to (m.h.roots.take j)).length + 1) c7) rfl rfl size_ints rfl 30 _ hO7 (show 2 < 4 by omega) ?_
              intro w9 hO9 hg9 hs9
              have hD9 : RecAt w9 (w.heap.size + 2) 3 intL to := RowAt.grown hD7 hg9 (by intro e; injection e; omega)
              refine hK9.out _ _ ⟨hD9, fun p hp => by simp only [List.mem_cons, List.not_mem_nil, or_false] at hp; subst hp; exact .inl rfl⟩ ?_
              refine many_done (by kernel_rfl) ?_ _
              refine NoPanic.normal ?_
              have hs7 := hg7.size
              simp only [World.size_alloc] at hs7
              have hs7' : wr.heap.size + 1 ≤ w7.heap.size := hs7
              have step : ∀ b t (cs : Array Value), b ≠ N3 → b < N3 + 1 → RowAt wr b t cs → RowAt w9 b t cs := fun b t cs h2 h3 h => RowAt.grown (RowAt.grown (RowAt.old (w := wr.drew) h _) hg7 (hne7 b h3)) hg9 (by intro e; injection e with e; exact h2 e)
              have hown9 : w9.ownsRow (N3 + 1) 59 4 (.slice ou out.length cu) out.length (out.flatMap cellL) := by
                have h1 : wr.drew.ownsRow (N3 + 1) 59 4 (.slice ou out.length cu) out.length (out.flatMap cellL) := hown
                refine ((h1.alloc _).kept hg7 ?_).kept hg9 (.inr (fun e => by have := (hown.lt _ e).1; omega))
                rcases hh : (Value.slice ou out.length cu).ownBlock with _ | g
                · exact .inl rfl
                · exact .inr (fun e => own_apart (by decide) hown hown2 g hh e.symm)
              have hownR : w9.ownsRow (N3 + 1) 3 1 (.slice o7 ((movR to (m.h.roots.take j)).length + 1) c7) ((movR to (m.h.roots.take j)).length + 1) ((movR to (m.h.roots.take j)).flatMap intL ++ [.int .i64 (to.getD r default)]) := hown7.kept hg9 (.inr (fun e => by have := (hown7.lt _ e).1; omega))
              have hB9 : Below w.heap.size w w9 := ((hW.drew.alloc hW.size _).grown hg7 (by rw [World.size_alloc]; show _ ≤ wr.heap.size + 1; omega) (fun b e => by have := (hown2.lt _ e).1; omega)).grown hg9 (by omega) (fun b e => by cases e; omega)
              have H9 := hideT' (And.intro (And.intro (step _ _ _ (by omega) (by omega) hH) (And.intro (step _ _ _ (by omega) (by omega) hZ) (And.intro hD9 (And.intro hO9 (And.intro hown9 hownR))))) hB9)
              clear hH hZ hD hO hown hown2 hW hS hS6 hS7 hO0 hD6 hO6 hown20 hown7 hg7 hne7 hD7 hO7 hO9 hg9 hD9 step hown9 hownR hB9 H2 hcell
              go_wp2
              go_roundg (m.h.roots.length - (j + 1))
              case measure => omega
              case rel =>
                obtain ⟨⟨b1, b2, b3, b4, b5, b6⟩, b7⟩ := H9.out
                refine ⟨j + 1, rfl, by omega, by go_num, ⟨b1, b2, b3, .slice o7 ((movR to (m.h.roots.take j)).length + 1) c7, b4, b5, ?_⟩, b7, by omega⟩
                rw [HTK.out, List.length_append, List.length_singleton, List.flatMap_append]
                exact b6
            · have hjr : j = m.h.roots.length := by omega
              subst hjr
              rw [List.take_length] at hown2 hO
              have d0 : wr.cell? ⟨N3, 0, none⟩ = some (.int .i64 (out.length : Int)) := by rw [cell_of_row wr _ _ _ _ _ hO]; rfl
              have d1 : wr.cell? ⟨N3, 1, none⟩ = some (.slice ou out.length cu) := by rw [cell_of_row wr _ _ _ _ _ hO]; rfl
              have d2 : wr.cell? ⟨N3, 2, none⟩ = some (.slice o9 (movR to m.h.roots).length c9) := by rw [cell_of_row wr _ _ _ _ _ hO]; rfl
              have d3 : wr.cell? ⟨N3, 3, none⟩ = some (.slice none 0 0) := by rw [cell_of_row wr _ _ _ _ _ hO]; rfl
              have H2 := hideT' (And.intro hown (And.intro hown2 hW))
              clear hH hD hown hown2 hW H1 hO
              go_wp2_with (first | (refine store_4 rfl 30 _ _ rfl rfl zero_yg.2 (w.heap.size + 1) #[.int .i64 (out.length : Int), .slice ou out.length cu, .slice o9 (movR to m.h.roots).length c9, .slice none 0 0] rfl (yg_one _ _ _ _ _ _ _ _ _ _) rfl rfl _ rfl hZ ?_; intro we hR9 hge hse))
              obtain ⟨hown, hown2, hW⟩ := H2.out
              refine bodyPost_ret (v := .agg #[.int .i64 (out.length : Int), .slice ou out.length cu, .slice o9 (movR to m.h.roots).length c9, .slice none 0 0]) (results_cell_row Try.results81 _ _ (w.heap.size + 1) 30 _ (0, 0) _ rfl hR9 Try.underlying30 rfl zero_yg.2) rfl ⟨⟨.slice ou out.length cu, .slice o9 (movR to m.h.roots).length c9, by rw [HMM.out], ?_, ?_⟩, hW.grown hge hW.size (fun b e => by cases e; omega)⟩
              · rw [HMM.out]
                exact own_baseX (hown.kept hge (.inr (fun e => by have := (hown.lt _ e).1; omega))) (by omega)
              · rw [HMM.out]
                exact own_baseX (hown2.kept hge (.inr (fun e => by have := (hown2.lt _ e).1; omega))) (by omega)
end Go.Proofs.Ytoaancgmahdbnaa
