/-
  What spec.ReachIn answers.
-/
import Derived.Test.YtoaancgmahdbnaaSpecKeep
import Derived.Test.YtoaancgmahdbnaaBaseLate
namespace Go.Proofs.Ytoaancgmahdbnaa
open Go.RowKit BL
set_option linter.unusedVariables false

def reachOut (m : Hp) : List Int := if hpOk m then idxI (reachM m 0) m.cells.length else []
theorem oneX_cell (v : Int) : ∀ u ∈ [Value.int .i64 v], u.oneCell' = true := fun u hu => by simp at hu; subst hu; rfl
theorem own_formX {w : World} {B n s : Nat} {T : TypeId} {v : Value} {xs : List Value} (h : w.ownsRow B T s v n xs) : ∃ o cap, v = .slice o n cap := by
  rcases h.2 with ⟨h1, h0⟩ | ⟨g, cap, cur, h1, _⟩
  · exact ⟨none, 0, by rw [h1, h0]⟩
  · exact ⟨_, _, h1⟩

theorem own_baseX {w : World} {B B' n s : Nat} {T : TypeId} {v : Value} {xs : List Value} (h : w.ownsRow B T s v n xs) (hB : B' ≤ B) : w.ownsRow B' T s v n xs :=
  ⟨h.1, h.2.imp id fun ⟨g, cap, cur, h1, h2, h3⟩ => ⟨g, cap, cur, h1, Nat.le_trans hB h2, h3⟩⟩

set_option maxHeartbeats 4000000 in
set_option maxRecDepth 100000 in
theorem specReachIn_any (m : Hp) (v1 v2 : Value) (w : World) (hs : HpSmall m 1048576) (hM : HpRd w v1 v2 m) :
    Calls Try.prog 35 #[.agg #[.int .i64 m.old, v1, v2]] w fun e w' => (∃ v, e = .returned (.tuple #[v, .bool (hpOk m)]) ∧ OwnR w' w.heap.size v 3 intL 1 (reachOut m)) ∧ Below w.heap.size w w' := by
  obtain ⟨o1, c1, e1, x1⟩ := hM.1
  obtain ⟨o2, c2, e2, x2⟩ := hM.2
  clear x1 x2
  subst e1 e2
  have hB : Below w.heap.size w (w.alloc (.cells #[.int .i64 m.old, .slice o1 m.cells.length c1, .slice o2 m.roots.length c2] 48)) := (Below.refl _ _).alloc (Nat.le_refl _) _
  have HR : Hid (RowAt (w.alloc (.cells #[.int .i64 m.old, .slice o1 m.cells.length c1, .slice o2 m.roots.length c2] 48)) w.heap.size 48 #[.int .i64 m.old, .slice o1 m.cells.length c1, .slice o2 m.roots.length c2]) := RowAt.new _ _ _
  have HG := hideT' (specGoodHeap_any m _ _ _ hs (hM.below hB))
  have HM := hideT' hM
  have HB := hideT' hB
  clear hM hB
  go_enter Try.func35, Try.ntmps35
  go_wp2_with fail
  refine HG.out.mono ?_
  rintro e w1 ⟨rfl, hB1⟩
  have hR1 := RowAt.below HR.out hB1 (by simp)
  have hB1' := HB.out.trans (hB1.mono (by simp))
  obtain ⟨q, hq⟩ : ∃ q, q = hpOk m := ⟨_, rfl⟩
  rw [← hq]
  have HQ := hideT' hq
  clear hq
  cases q with
  | false =>
    have HN : Hid (reachOut m = []) := by unfold Hid reachOut; rw [← HQ.out]; rfl
    go_wp2
    go_ret2
    exact ⟨⟨_, by rw [← HQ.out]; rfl, by rw [HN.out]; exact World.ownsRow_nil _ _ _ _⟩, hB1'⟩
  | true =>
  have hok : hpOk m = true := HQ.out.symm
  have HOK := hideT' hok
  have hl1 := (hpOk_all hok).1
  have HN : Hid (reachOut m = idxI (reachM m 0) m.cells.length) := by unfold Hid reachOut; rw [hok]; rfl
  have hs1 := hB1.size
  simp only [World.size_alloc] at hs1
  clear hok hB1
  go_wp2_with fail
  have hS : RowAt w1.drew w.heap.size 48 #[.int .i64 m.old, .slice o1 m.cells.length c1, .slice o2 m.roots.length c2] := hR1
  refine held_begin (fun w' => RowAt w' w.heap.size 48 #[.int .i64 m.old, .slice o1 m.cells.length c1, .slice o2 m.roots.length c2]) (by kernel_rfl) ?_
  refine held_valS 0 (some 10) rfl rfl (by kernel_rfl) (by kernel_rfl) (by kernel_rfl) noPanic_put rfl (.agg #[.int .i64 m.old, .slice o1 m.cells.length c1, .slice o2 m.roots.length c2]) (fun w' h => run_loadRow (.tmp 1) 48 rfl w.heap.size rfl _ _ h Try.underlying48 zero_hp.2) hS ?_
  simp only [Act.put, List.setIfInBounds_toArray, List.set_cons_zero, List.set_cons_succ]
  refine held_val 1 (some 11) rfl rfl (by kernel_rfl) (by kernel_rfl) (by kernel_rfl) noPanic_put rfl (.pointer (some ⟨w.heap.size, 1, none⟩)) (fun _ => by go_simp) hS ?_
  simp only [Act.put, List.setIfInBounds_toArray, List.set_cons_zero, List.set_cons_succ]
  refine held_valS 2 (some 12) rfl rfl (by kernel_rfl) (by kernel_rfl) (by kernel_rfl) noPanic_put rfl (.slice o1 m.cells.length c1) (fun w' h => run_cell1 (.tmp 11) 28 rfl ⟨w.heap.size, 1, none⟩ rfl _ Try.underlying28 rfl (by rw [cell_of_row w' _ _ _ _ _ h]; rfl)) hS ?_
  simp only [Act.put, List.setIfInBounds_toArray, List.set_cons_zero, List.set_cons_succ]
  refine held_val 3 (some 13) rfl rfl (by kernel_rfl) (by kernel_rfl) (by kernel_rfl) noPanic_put rfl (.int .i64 (m.cells.length : Int)) (fun _ => by go_simp) hS ?_
  simp only [Act.put, List.setIfInBounds_toArray, List.set_cons_zero, List.set_cons_succ]
  refine held_val 7 (some 17) rfl rfl (by kernel_rfl) (by kernel_rfl) (by kernel_rfl) noPanic_put rfl (.int .i64 0) (fun _ => by go_simp) hS ?_
  simp only [Act.put, List.setIfInBounds_toArray, List.set_cons_zero, List.set_cons_succ]
  refine held_ready 4 (some 14) (by kernel_rfl) rfl rfl rfl (.slice (some ⟨w1.heap.size, 0, none⟩) m.cells.length m.cells.length) _ (run_make1 69 (.tmp 13) (.tmp 13) rfl _ _ _ rfl rfl (make_bool m.cells.length (by omega) w1.drew)) (RowAt.old hS _) ?_
  simp only [Act.put, List.setIfInBounds_toArray, List.set_cons_zero, List.set_cons_succ]
  obtain ⟨w2, hw2⟩ : ∃ w2, w2 = w1.drew.alloc (.cells ((List.replicate m.cells.length false).flatMap boolL).toArray 4) := ⟨_, rfl⟩
  have hD2 : RecAt w2 w1.heap.size 4 boolL (List.replicate m.cells.length false) := by rw [hw2]; exact RowAt.new w1.drew _ _
  have hB2 : Below w1.heap.size w1 w2 := by rw [hw2]; exact ((Below.refl _ _).drew).alloc (Nat.le_refl _) _
  have hR2 : RowAt w2 w.heap.size 48 #[.int .i64 m.old, .slice o1 m.cells.length c1, .slice o2 m.roots.length c2] := hR1.below hB2 (by omega)
  have hs2 : w2.heap.size = w1.heap.size + 1 := by rw [hw2]; simp
  have hM2 := HM.out.below (hB1'.trans (hB2.mono hB1'.size))
  rw [← hw2]
  have hM1 := HM.out.below hB1'
  have hlen : (List.replicate m.cells.length false).length = m.cells.length := List.length_replicate
  have hke := l7Keep_any m HOK.out _ _ w1.heap.size (List.replicate m.cells.length false) w2 hM2 (hM1.1.apart (Nat.le_refl _)) (hM1.2.apart (Nat.le_refl _)) hlen hD2
  rw [show slR w1.heap.size (List.replicate m.cells.length false) = .slice (some ⟨w1.heap.size, 0, none⟩) m.cells.length m.cells.length by rw [slR, hlen]] at hke
  refine held_call 5 (some 15) (by kernel_rfl) rfl rfl rfl 67 #[.agg #[.int .i64 m.old, .slice o1 m.cells.length c1, .slice o2 m.roots.length c2], .slice (some ⟨w1.heap.size, 0, none⟩) m.cells.length m.cells.length] (by go_simp) _ hke ?_
  rintro e w3 ⟨rfl, hD3, hg3⟩
  have hB3 : Below w1.heap.size w1 w3 := hB2.grown hg3 hB2.size (fun k hk => by cases hk; exact Nat.le_refl _)
  have hR3 : RowAt w3 w.heap.size 48 #[.int .i64 m.old, .slice o1 m.cells.length c1, .slice o2 m.roots.length c2] := hR1.below hB3 (by omega)
  refine ⟨_, rfl, hR3, ?_⟩
  simp only [Act.put, List.setIfInBounds_toArray, List.set_cons_zero, List.set_cons_succ]
  refine held_val 6 (some 16) rfl rfl (by kernel_rfl) (by kernel_rfl) (by kernel_rfl) noPanic_put rfl (.int .i64 (m.cells.length : Int)) (fun _ => by go_simp) hR3 ?_
  simp only [Act.put, List.setIfInBounds_toArray, List.set_cons_zero, List.set_cons_succ]
  refine wpAnyH_done (by kernel_rfl) ?_ _
  refine NoPanic.normal ?_
  obtain ⟨ms, hms⟩ : ∃ ms, ms = reachM m 0 := ⟨_, rfl⟩
  have hD4 : RecAt w3 w1.heap.size 4 boolL ms := by rw [hms]; exact hD3
  have hml : ms.length = m.cells.length := by rw [hms]; exact reachM_len (Nat.zero_le _)
  have HMS := hideT' hms
  have HML := hideT' hml
  have HD := hideT' hD4
  have hB3' := hB1'.trans (hB3.mono hB1'.size)
  have hb3 := hD4.lt
  obtain ⟨n, hn⟩ : ∃ n, n = m.cells.length := ⟨_, rfl⟩
  rw [← hn] at hl1 ⊢
  have HNN := hideT' hn
  obtain ⟨i0, hi, hz0, hz1, hz2⟩ := info_parts info_int
  clear hD2 hB2 hR2 hs2 hM2 hM1 hlen hke hD3 hg3 hR3 hD4 hms hml hw2 hS hR1 hn hs
  go_wp2_with fail
  go_loopg [4, 17] n (fun g x i wr => ∃ k : Nat, g = n - k ∧ k ≤ n ∧ i = .int .i64 (k : Int) ∧ OwnR wr (w1.heap.size + 1) x 3 intL 1 (idxI ms k) ∧ RecAt wr w1.heap.size 4 boolL ms ∧ Below w.heap.size w wr ∧ w1.heap.size + 1 ≤ wr.heap.size)
  case atStart => exact ⟨0, rfl, by omega, by go_num, World.ownsRow_nil _ _ _ _, HD.out, hB3', by omega⟩
  case round =>
    obtain ⟨k, hg, hk, rfl, hO, hDr, hW, hsz⟩ := hrel
    obtain ⟨o, cap, hv⟩ := own_formX hO
    have HO := hideT' hO
    subst hv
    by_cases hlt : (k : Int) < (n : Int)
    · have hk' : k < ms.length := by have := HML.out; have := HNN.out; omega
      have hbit := bool_cell hDr hk'
      have hsucc := idxI_succ ms k
      have hkl := idxI_len ms k
      obtain ⟨q, hq⟩ : ∃ q, q = bAt ms k := ⟨_, rfl⟩
      rw [← hq] at hbit hsucc
      clear hq hO
      cases q with
      | false =>
        have HS : Hid (idxI ms (k + 1) = idxI ms k) := by unfold Hid; rw [hsucc]; rfl
        clear hsucc
        go_wp2
        go_roundg (n - (k + 1))
        case measure => omega
        case rel => exact ⟨k + 1, rfl, by omega, by go_num, by rw [HS.out]; exact HO.out, hDr, hW, hsz⟩
      | true =>
        have HS : Hid (idxI ms (k + 1) = idxI ms k ++ [(k : Int)]) := by unfold Hid; rw [hsucc]; rfl
        have HDr := hideT' hDr
        clear hsucc hDr
        go_wp2_with (at_builtin; refine wpList_append_own _ rfl _ _ 23 rfl (w1.heap.size + 1) 3 i0 (.int .i64 0) 1 8 Try.underlying23 hi hz0 hz1 hz2 rfl (by decide) _ _ _ rfl (HO.out.alloc _) ⟨wr.heap.size, 0, none⟩ 1 1 [.int .i64 (k : Int)] rfl rfl (cell_one_new _ _ _) (oneX_cell _) (by unfold maxLen; omega) (by omega) (by simp; omega) ?_; intro v' w4 hown' hgrow _)
        have hgb : ∀ g, (Value.slice o (idxI ms k).length cap).ownBlock = some g → w1.heap.size + 1 ≤ g := fun g e => (HO.out.lt g e).1
        go_roundg (n - (k + 1))
        case measure => omega
        case rel =>
          refine ⟨k + 1, rfl, by omega, by go_num, ?_, ?_, ?_, ?_⟩
          · rw [HS.out]
            unfold OwnR
            rw [List.length_append, List.flatMap_append]
            exact hown'
          · exact RowAt.grown (RowAt.old HDr.out _) hgrow (fun e => by have := hgb _ e.symm; omega)
          · exact (hW.alloc hW.size _).grown hgrow (by have := hW.size; simp; omega) (fun k hk => by have := hgb _ hk; have := hB3'.size; have := hB1'.size; omega)
          · have := hgrow.size
            simp only [World.size_alloc] at this
            omega
    · have hkn : k = n := by omega
      subst hkn
      have HF : Hid (OwnR wr (w1.heap.size + 1) (.slice o (idxI ms k).length cap) 3 intL 1 (reachOut m)) := by
        unfold Hid
        rw [HN.out, ← HMS.out, ← HNN.out]; exact hO
      clear hO
      go_wp2
      go_ret2
      exact ⟨⟨_, by rw [← HQ.out]; rfl, own_baseX HF.out (by have := hB1'.size; omega)⟩, hW⟩
end Go.Proofs.Ytoaancgmahdbnaa
