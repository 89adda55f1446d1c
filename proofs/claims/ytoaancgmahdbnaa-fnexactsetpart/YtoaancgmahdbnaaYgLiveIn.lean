/-
  What both LiveIn answer.
-/
import Derived.Test.YtoaancgmahdbnaaYgLive
import Derived.Test.YtoaancgmahdbnaaYgLh
namespace Go.Proofs.Ytoaancgmahdbnaa
open Go.RowKit Go.Shelf BL
set_option linter.unusedVariables false
attribute [local go_sem] Oper.semAt_some

/-- What LiveIn tells. -/
def liveOut (m : Yg) : List Int := if ygOk m then idxI (liveM m.h (nmk m.noted) 0) m.h.cells.length else []
theorem liveM_zero (h : Hp) (nm : List Bool) : liveM h nm 0 = rdfs h.cells 0 h.cells.length (List.replicate h.cells.length false) h.roots := rfl
theorem ygOk_snd {m : Yg} (h : ygOk m = true) : sndOk m.h = true := by
  unfold ygOk at h
  rw [Bool.and_eq_true] at h
  exact h.1

set_option maxRecDepth 100000 in
set_option maxHeartbeats 4000000 in
theorem lhLive_any (m : Yg) (hok : sndOk m.h = true) (o1 o2 o3 : Option Addr) (c1 c2 c3 : Nat) (w : World) (hM : YgRd w (.slice o1 m.h.cells.length c1) (.slice o2 m.h.roots.length c2) (.slice o3 m.noted.length c3) m) :
    Calls Try.prog 54 #[.agg #[.int .i64 m.h.old, .slice o1 m.h.cells.length c1, .slice o2 m.h.roots.length c2, .slice o3 m.noted.length c3]] w fun e w' => (∃ mb, e = .returned (.slice (some ⟨mb, 0, none⟩) m.h.cells.length m.h.cells.length) ∧ w.heap.size ≤ mb ∧ RecAt w' mb 4 boolL (liveM m.h (nmk m.noted) 0)) ∧ Below w.heap.size w w' := by
  obtain ⟨hl1, hl2, hold, hcl, hrt⟩ := sndOk_all hok
  have HLV := hideT' (liveM_zero m.h (nmk m.noted))
  obtain ⟨od, hod⟩ : ∃ od : Nat, m.h.old = (od : Int) := ⟨m.h.old.toNat, by omega⟩
  obtain ⟨n, hn⟩ : ∃ n, n = m.h.cells.length := ⟨_, rfl⟩
  have HN := hideT' hn
  have hI1 := hM.1.1
  have hI2 := hM.1.2
  rw [hod]
  rw [← hn] at hl1 hcl hI1 HLV ⊢
  have hmk := make_bool n (by omega)
  have hg1 : ∀ g, (Value.slice o1 n c1).ownBlock = some g → InR w (.slice o1 n c1) cellL 4 m.h.cells → m.h.cells ≠ [] → g < w.heap.size := by
    intro g e h hne
    obtain ⟨o', cap', e', hin⟩ := h
    cases e'
    obtain ⟨g', rfl, hlt, _⟩ := hin hne
    cases e
    exact hlt
  have hB1 : Below w.heap.size w (w.alloc (.cells #[.int .i64 (od : Int), .slice o1 n c1, .slice o2 m.h.roots.length c2, .slice o3 m.noted.length c3] 30)) := (Below.refl _ _).alloc (Nat.le_refl _) _
  obtain ⟨W, hW⟩ : ∃ W, W = (w.alloc (.cells #[.int .i64 (od : Int), .slice o1 n c1, .slice o2 m.h.roots.length c2, .slice o3 m.noted.length c3] 30)).alloc (.cells ((List.replicate n false).flatMap boolL).toArray 4) := ⟨_, rfl⟩
  have hBW : Below w.heap.size w W := by rw [hW]; exact hB1.alloc (by simp) _
  have hWs : W.heap.size = w.heap.size + 2 := by rw [hW]; simp
  have hX : RowAt W w.heap.size 30 #[.int .i64 (od : Int), .slice o1 n c1, .slice o2 m.h.roots.length c2, .slice o3 m.noted.length c3] := by rw [hW]; exact RowAt.old (RowAt.new _ _ _) _
  have hD : RecAt W (w.heap.size + 1) 4 boolL (List.replicate n false) := by
    rw [hW]
    have := RowAt.new (w.alloc (.cells #[.int .i64 (od : Int), .slice o1 n c1, .slice o2 m.h.roots.length c2, .slice o3 m.noted.length c3] 30)) 4 ((List.replicate n false).flatMap boolL).toArray
    rwa [World.size_alloc] at this
  -- what every later world knows
  have HF : Hid (∀ W', OnlyP (· = w.heap.size + 1) W W' → (((W'.cell? ⟨w.heap.size, 0, none⟩ = some (.int .i64 (od : Int)) ∧ W'.cell? ⟨w.heap.size, 1, none⟩ = some (.slice o1 n c1)) ∧ W'.cell? ⟨w.heap.size, 2, none⟩ = some (.slice o2 m.h.roots.length c2) ∧ W'.cell? ⟨w.heap.size, 3, none⟩ = some (.slice o3 m.noted.length c3)) ∧ (m.h.cells ≠ [] → InR W' (.slice o1 n c1) cellL 4 m.h.cells)) ∧ ∀ j (r : Nat), m.h.roots.getD j default = (r : Int) → j < m.h.roots.length → ∃ g, o2 = some ⟨g, 0, none⟩ ∧ W'.cell? ⟨g, j, none⟩ = some (.int .i64 (r : Int))) := by
    intro W' hP
    have b0 := hP.row hX (by omega)
    refine ⟨⟨⟨⟨?_, ?_⟩, ?_, ?_⟩, fun hne => hP.inR (hI1.below hBW) (fun g e => by have := hg1 g e hI1 hne; omega)⟩, fun j r hr hj => ?_⟩
    · rw [cell_of_row _ _ _ _ _ _ b0]; rfl
    · rw [cell_of_row _ _ _ _ _ _ b0]; rfl
    · rw [cell_of_row _ _ _ _ _ _ b0]; rfl
    · rw [cell_of_row _ _ _ _ _ _ b0]; rfl
    · obtain ⟨o', cap', ee, hin⟩ := hI2
      cases ee
      obtain ⟨g, rfl, hlt, hc⟩ := hin (fun e => by rw [e] at hj; simp at hj)
      refine ⟨g, rfl, ?_⟩
      have := hc j 0 (.int .i64 (m.h.roots.getD j default)) hj rfl
      rw [Nat.mul_one, Nat.add_zero, hr] at this
      rw [World.cell?_of_block (hP.block g (by omega) (by omega)), World.cell?_of_block (hBW.block g hlt)]
      exact this
  have HMK : Hid (m.h.cells ≠ [] → ∀ f, LhOk m n (w.heap.size + 1) od 0 false (.slice o2 m.h.roots.length c2) (.slice o3 m.noted.length c3) c1 o1 f) := fun hne f => lhMark_all m n hn hl1 hcl (w.heap.size + 1) od 0 false rfl _ _ c1 o1 (fun g e => by have := hg1 g e hI1 hne; omega) o2 o3 _ _ c2 c3 rfl rfl f
  have HRT := hideT' hrt
  have HW := hideT' hW
  have HD := hideT' (And.intro hD hBW)
  clear hM hI1 hI2 hg1 hB1 hW hD hX hBW hcl hrt hn hod hold
  go_enter Try.func54, Try.ntmps54
  go_wp2_with fail
  rw [← HW.out]
  clear hmk
  go_loopg [13] m.h.roots.length (fun g i wr => ∃ j : Nat, g = m.h.roots.length - j ∧ j ≤ m.h.roots.length ∧ i = .int .i64 (j : Int) ∧ RecAt wr (w.heap.size + 1) 4 boolL (rdfs m.h.cells 0 n (List.replicate n false) (m.h.roots.take j)) ∧ OnlyP (· = w.heap.size + 1) W wr)
  case atStart => exact ⟨0, rfl, by omega, by go_num, HD.out.1, OnlyP.refl _ _⟩
  case round =>
    obtain ⟨j, hg, hj, rfl, hR, hP⟩ := hrel
    obtain ⟨⟨⟨⟨f0, f1⟩, f2, f3⟩, hin⟩, hro⟩ := HF.out wr hP
    by_cases hltj : (j : Int) < (m.h.roots.length : Int)
    · have hj' : j < m.h.roots.length := by omega
      obtain ⟨r, hr, hrl⟩ := HRT.out j hj'
      obtain ⟨g2, rfl, hcell⟩ := hro j r hr hj'
      have hne : m.h.cells ≠ [] := fun e => by rw [e] at hrl; simp at hrl
      have hlen : (rdfs m.h.cells 0 n (List.replicate n false) (m.h.roots.take j)).length = n := by rw [rdfs_len, List.length_replicate]
      have HC := hideT' (HMK.out hne n _ r wr hlen (by rw [HN.out]; exact hrl) (by have := fal_le (rdfs m.h.cells 0 n (List.replicate n false) (m.h.roots.take j)); omega) (hin hne) hR)
      have HTK : Hid (rdfs m.h.cells 0 n (List.replicate n false) (m.h.roots.take (j + 1)) = dfs m.h.cells 0 n (rdfs m.h.cells 0 n (List.replicate n false) (m.h.roots.take j)) r) := by unfold Hid; rw [rdfs_take _ _ _ _ hj', hr]; rfl
      have HP := hideT' hP
      clear hR hP hin hro hr hrl hlen hne
      go_wp2_with fail
      refine HC.out.mono ?_
      rintro e W2 ⟨rfl, hR2, hP2⟩
      have HO := hideT' (And.intro hR2 (HP.out.trans hP2))
      clear hR2 hP2
      go_wp2
      go_roundg (m.h.roots.length - (j + 1))
      case measure => omega
      case rel => exact ⟨j + 1, rfl, by omega, by go_num, by rw [HTK.out]; exact HO.out.1, HO.out.2⟩
    · have hjr : j = m.h.roots.length := by omega
      rw [hjr, List.take_length] at hR
      have HO : Hid (RecAt wr (w.heap.size + 1) 4 boolL (liveM m.h (nmk m.noted) 0) ∧ Below w.heap.size w wr) := ⟨by rw [HLV.out]; exact hR, hP.belowB HD.out.2 (by omega) (fun k e => by omega)⟩
      clear hR hP hin hro hjr
      go_wp2
      go_ret
      exact ⟨⟨w.heap.size + 1, rfl, by omega, HO.out.1⟩, HO.out.2⟩

set_option maxHeartbeats 4000000 in
set_option maxRecDepth 100000 in
theorem specLiveIn_any (m : Yg) (o1 o2 o3 : Option Addr) (c1 c2 c3 : Nat) (w : World) (hs : YgSmall m 1048576) (hM : YgRd w (.slice o1 m.h.cells.length c1) (.slice o2 m.h.roots.length c2) (.slice o3 m.noted.length c3) m) :
    Calls Try.prog 17 #[.agg #[.int .i64 m.h.old, .slice o1 m.h.cells.length c1, .slice o2 m.h.roots.length c2, .slice o3 m.noted.length c3]] w fun e w' => (∃ v, e = .returned (.tuple #[v, .bool (ygOk m)]) ∧ OwnR w' w.heap.size v 3 intL 1 (liveOut m)) ∧ Below w.heap.size w w' := by
  have hB : Below w.heap.size w (w.alloc (.cells #[.int .i64 m.h.old, .slice o1 m.h.cells.length c1, .slice o2 m.h.roots.length c2, .slice o3 m.noted.length c3] 30)) := (Below.refl _ _).alloc (Nat.le_refl _) _
  have HR : Hid (RowAt (w.alloc (.cells #[.int .i64 m.h.old, .slice o1 m.h.cells.length c1, .slice o2 m.h.roots.length c2, .slice o3 m.noted.length c3] 30)) w.heap.size 30 #[.int .i64 m.h.old, .slice o1 m.h.cells.length c1, .slice o2 m.h.roots.length c2, .slice o3 m.noted.length c3]) := RowAt.new _ _ _
  have HG := hideT' (specGoodYoung_any m _ _ _ _ hs hs.2 (hM.below hB))
  have HM := hideT' hM
  have HB := hideT' hB
  clear hM hB hs
  go_enter Try.func17, Try.ntmps17
  go_wp2_with fail
  refine HG.out.mono ?_
  rintro e w1 ⟨rfl, hB1⟩
  have hR1 := RowAt.below HR.out hB1 (by simp)
  have hB1' := HB.out.trans (hB1.mono (by simp))
  obtain ⟨q, hq⟩ : ∃ q, q = ygOk m := ⟨_, rfl⟩
  rw [← hq]
  have HQ := hideT' hq
  clear hq
  cases q with
  | false =>
    have HN : Hid (liveOut m = []) := by unfold Hid liveOut; rw [← HQ.out]; rfl
    go_wp2
    go_ret2
    exact ⟨⟨_, by rw [← HQ.out]; rfl, by rw [HN.out]; exact World.ownsRow_nil _ _ _ _⟩, hB1'⟩
  | true =>
  have hok : ygOk m = true := HQ.out.symm
  have hl1 := (sndOk_all (ygOk_snd hok)).1
  have HN : Hid (liveOut m = idxI (liveM m.h (nmk m.noted) 0) m.h.cells.length) := by unfold Hid liveOut; rw [hok]; rfl
  have HC := hideT' (lhLive_any m (ygOk_snd hok) o1 o2 o3 c1 c2 c3 w1 (HM.out.below hB1'))
  have hs1 := hB1.size
  simp only [World.size_alloc] at hs1
  have e0 : w1.cell? ⟨w.heap.size, 0, none⟩ = some (.int .i64 m.h.old) := by rw [cell_of_row _ _ _ _ _ _ hR1]; rfl
  have e1 : w1.cell? ⟨w.heap.size, 1, none⟩ = some (.slice o1 m.h.cells.length c1) := by rw [cell_of_row _ _ _ _ _ _ hR1]; rfl
  have e2 : w1.cell? ⟨w.heap.size, 2, none⟩ = some (.slice o2 m.h.roots.length c2) := by rw [cell_of_row _ _ _ _ _ _ hR1]; rfl
  have e3 : w1.cell? ⟨w.heap.size, 3, none⟩ = some (.slice o3 m.noted.length c3) := by rw [cell_of_row _ _ _ _ _ _ hR1]; rfl
  have HB1 := hideT' hB1'
  clear hok hB1 hR1 hB1'
  go_wp2_with fail
  refine HC.out.mono ?_
  rintro e w3 ⟨⟨mb, rfl, hmb, hD3⟩, hB3⟩
  obtain ⟨ms, hms⟩ : ∃ ms, ms = liveM m.h (nmk m.noted) 0 := ⟨_, rfl⟩
  have hml : ms.length = m.h.cells.length := by rw [hms]; exact liveM_len _ _ _
  rw [← hms] at hD3
  have HMS := hideT' hms
  have HML := hideT' hml
  have HD := hideT' hD3
  have hB3' := HB1.out.trans (hB3.mono HB1.out.size)
  have hb3 := hD3.lt
  obtain ⟨n, hn⟩ : ∃ n, n = m.h.cells.length := ⟨_, rfl⟩
  rw [← hn] at hl1 ⊢
  have HNN := hideT' hn
  obtain ⟨i0, hi, hz0, hz1, hz2⟩ := info_parts info_int
  clear hD3 hms hml hn hB3 e0 e1 e2 e3
  go_wp2_with fail
  go_loopg [4, 13] n (fun g x i wr => ∃ k : Nat, g = n - k ∧ k ≤ n ∧ i = .int .i64 (k : Int) ∧ OwnR wr (mb + 1) x 3 intL 1 (idxI ms k) ∧ RecAt wr mb 4 boolL ms ∧ Below w.heap.size w wr ∧ mb + 1 ≤ wr.heap.size)
  case atStart => exact ⟨0, rfl, by omega, by go_num, World.ownsRow_nil _ _ _ _, HD.out, hB3', by omega⟩
  case round =>
    obtain ⟨k, hg, hk, rfl, hO, hDr, hW, hsz⟩ := hrel
    obtain ⟨o, cap, hv⟩ := own_formX hO
    have HO := hideT' hO
    subst hv
    by_cases hlt : (k : Int) < (n : Int)
    · have hk' : k < ms.length := by have := HML.out; have := HNN.out; omega
      have hbit := bool_cell hDr hk'
      have hsucc := idxI_succ ms k
      have hkl := idxI_len ms k
      obtain ⟨q, hq⟩ : ∃ q, q = bAt ms k := ⟨_, rfl⟩
      rw [← hq] at hbit hsucc
      clear hq hO
      cases q with
      | false =>
        have HS : Hid (idxI ms (k + 1) = idxI ms k) := by unfold Hid; rw [hsucc]; rfl
        clear hsucc
        go_wp2
        go_roundg (n - (k + 1))
        case measure => omega
        case rel => exact ⟨k + 1, rfl, by omega, by go_num, by rw [HS.out]; exact HO.out, hDr, hW, hsz⟩
      | true =>
        have HS : Hid (idxI ms (k + 1) = idxI ms k ++ [(k : Int)]) := by unfold Hid; rw [hsucc]; rfl
        have HDr := hideT' hDr
        clear hsucc hDr
        go_wp2_with (at_builtin; refine wpList_append_own _ rfl _ _ 23 rfl (mb + 1) 3 i0 (.int .i64 0) 1 8 Try.underlying23 hi hz0 hz1 hz2 rfl (by decide) _ _ _ rfl (HO.out.alloc _) ⟨wr.heap.size, 0, none⟩ 1 1 [.int .i64 (k : Int)] rfl rfl (cell_one_new _ _ _) (oneX_cell _) (by unfold maxLen; omega) (by omega) (by simp; omega) ?_; intro v' w4 hown' hgrow _)
        have hgb : ∀ g, (Value.slice o (idxI ms k).length cap).ownBlock = some g → mb + 1 ≤ g := fun g e => (HO.out.lt g e).1
        go_roundg (n - (k + 1))
        case measure => omega
        case rel =>
          refine ⟨k + 1, rfl, by omega, by go_num, ?_, ?_, ?_, ?_⟩
          · rw [HS.out]
            unfold OwnR
            rw [List.length_append, List.flatMap_append]
            exact hown'
          · exact RowAt.grown (RowAt.old HDr.out _) hgrow (fun e => by have := hgb _ e.symm; omega)
          · exact (hW.alloc hW.size _).grown hgrow (by have := hW.size; simp; omega) (fun k hk => by have := hgb _ hk; have := hB3'.size; have := HB1.out.size; omega)
          · have := hgrow.size
            simp only [World.size_alloc] at this
            omega
    · have hkn : k = n := by omega
      subst hkn
      have HF : Hid (OwnR wr (mb + 1) (.slice o (idxI ms k).length cap) 3 intL 1 (liveOut m)) := by
        unfold Hid
        rw [HN.out, ← HMS.out, ← HNN.out]; exact hO
      clear hO
      go_wp2
      go_ret2
      exact ⟨⟨_, by rw [← HQ.out]; rfl, own_baseX HF.out (by have := HB1.out.size; omega)⟩, hW⟩

set_option maxHeartbeats 4000000 in
set_option maxRecDepth 100000 in
theorem implLiveIn_any (m : Yg) (b c d : Nat) (w : World) (hs : YgSmall m 1048576) (hM : YgAt w b c d m) :
    Calls Try.prog 18 #[.agg (ygC b c d m)] w fun e w' => (∃ v, e = .returned (.tuple #[v, .bool (ygOk m)]) ∧ OwnR w' w.heap.size v 3 intL 1 (liveOut m)) ∧ Below w.heap.size w w' := by
  obtain ⟨lb, lc, ld⟩ := hM.lt
  have hB : Below w.heap.size w (w.alloc (.cells (ygC b c d m) 30)) := (Below.refl _ _).alloc (Nat.le_refl _) _
  have HWO := hideT' (writtenOf_any m b c d (w.alloc (.cells (ygC b c d m) 30)) hs (hM.below hB lb lc ld))
  have HB := hideT' hB
  clear hM hB hs lb lc ld
  go_enter Try.func18, Try.ntmps18
  go_wp2_with fail
  refine HWO.out.mono ?_
  rintro e w1 ⟨hans, hB1⟩
  have hB1' := HB.out.trans (hB1.mono (by simp))
  rcases hans with ⟨hq, rfl⟩ | ⟨hq, hb, v1, v2, rfl, hW⟩
  · have HQ := hideT' hq
    have HN : Hid (liveOut m = []) := by unfold Hid liveOut; rw [hq]; rfl
    have HB1 := hideT' hB1'
    clear hq hB1 hB1'
    go_wp2
    go_ret2
    exact ⟨⟨_, by rw [HQ.out]; rfl, by rw [HN.out]; exact World.ownsRow_nil _ _ _ _⟩, HB1.out⟩
  · have HQ := hideT' hq
    have HN : Hid (liveOut m = idxI (liveM m.h (nmk m.noted) 0) m.h.cells.length) := by unfold Hid liveOut; rw [hq]; rfl
    have hsnd := ygOk_snd hq
    have hl1 := (sndOk_all hsnd).1
    have HSND := hideT' hsnd
    have HB1 := hideT' hB1'
    have HWr := hideT' hW
    have hs1 := hB1'.size
    clear hq hB1 hB1' hW hsnd
    go_wp2_with fail
    refine held_begin (fun _ => True) (by kernel_rfl) ?_
    refine held_val 0 (some 13) rfl rfl (by kernel_rfl) (by kernel_rfl) (by kernel_rfl) noPanic_put rfl (.pointer (some ⟨hb, 0, none⟩)) (fun _ => by go_simp) trivial ?_
    simp only [Act.put, List.setIfInBounds_toArray, List.set_cons_zero, List.set_cons_succ]
    refine held_val 1 (some 14) rfl rfl (by kernel_rfl) (by kernel_rfl) (by kernel_rfl) noPanic_put rfl (.pointer (some ⟨hb, 0, none⟩)) (fun _ => by go_simp) trivial ?_
    simp only [Act.put, List.setIfInBounds_toArray, List.set_cons_zero, List.set_cons_succ]
    refine held_val 2 (some 15) rfl rfl (by kernel_rfl) (by kernel_rfl) (by kernel_rfl) noPanic_put rfl (.pointer (some ⟨hb, 0, none⟩)) (fun _ => by go_simp) trivial ?_
    simp only [Act.put, List.setIfInBounds_toArray, List.set_cons_zero, List.set_cons_succ]
    refine held_val 3 (some 16) rfl rfl (by kernel_rfl) (by kernel_rfl) (by kernel_rfl) noPanic_put rfl (.pointer (some ⟨hb, 0, none⟩)) (fun _ => by go_simp) trivial ?_
    simp only [Act.put, List.setIfInBounds_toArray, List.set_cons_zero, List.set_cons_succ]
    refine held_call 4 (some 17) (by kernel_rfl) rfl rfl rfl 57 #[.pointer (some ⟨hb, 0, none⟩), .int .i64 ((0 : Nat) : Int)] (by go_simp) _ (live_any m.h (nmk m.noted) HSND.out (nmk_len _) 0 (Nat.zero_le _) _ hb v1 v2 w1.drew ⟨HWr.out.1, HWr.out.2.1, HWr.out.2.2.1, HWr.out.2.2.2⟩) ?_
    rintro e w2 ⟨⟨mb, rfl, hmb, Z, hD⟩, hB2⟩
    have hB2' : Below w1.heap.size w1 w2 := ⟨hB2.os, hB2.tape, hB2.output, hB2.size, hB2.block⟩
    refine ⟨_, rfl, trivial, ?_⟩
    simp only [Act.put, List.setIfInBounds_toArray, List.set_cons_zero, List.set_cons_succ]
    have hR2 := HWr.out.1.below hB2' (RowAt.lt HWr.out.1)
    obtain ⟨o1, c1, e1⟩ := own_formX HWr.out.2.1
    subst e1
    have hI2 : InR w2 (.slice o1 m.h.cells.length c1) cellL 4 m.h.cells := OwnR.inR (l := m.h.cells) (OwnR.below (l := m.h.cells) HWr.out.2.1 hB2' (Nat.le_refl _)) cellL_len
    have hms : MarksAt w2 mb 0 (liveM m.h (nmk m.noted) 0) := by
      intro i hi
      have := MarksAt.of_rec hD i (by rw [List.length_append]; omega)
      rw [bAt_app _ _ hi] at this
      exact this
    refine held_call 5 (some 18) (by kernel_rfl) rfl rfl rfl 56 #[.pointer (some ⟨hb, 0, none⟩), .slice (some ⟨mb, 0, none⟩) m.h.cells.length 200] (by go_simp) _ (numbers_any m.h.cells (liveM m.h (nmk m.noted) 0) hb mb 0 m.h.cells.length 200 m.h.cells.length c1 o1 w2 (liveM_len _ _ _) (Nat.le_refl _) hl1 rfl (by rw [cell_of_row _ _ _ _ _ _ hR2]; rfl) hI2 hms (RecAt.lt hD)) ?_
    rintro e w3 ⟨⟨v, rfl, hown⟩, hB3⟩
    refine ⟨_, rfl, trivial, ?_⟩
    simp only [Act.put, List.setIfInBounds_toArray, List.set_cons_zero, List.set_cons_succ]
    refine held_val 6 (some 2) rfl rfl (by kernel_rfl) (by kernel_rfl) (by kernel_rfl) noPanic_put rfl v (fun _ => by go_simp) trivial ?_
    simp only [Act.put, List.setIfInBounds_toArray, List.set_cons_zero, List.set_cons_succ]
    refine held_val 7 (some 3) rfl rfl (by kernel_rfl) (by kernel_rfl) (by kernel_rfl) noPanic_put rfl (.bool true) (fun _ => by go_simp) trivial ?_
    simp only [Act.put, List.setIfInBounds_toArray, List.set_cons_zero, List.set_cons_succ]
    refine wpAnyH_done (by kernel_rfl) ?_ _
    refine NoPanic.normal ?_
    have hs2 := hB2'.size
    have hT3 : Below w.heap.size w w3 := (HB1.out.trans (hB2'.mono hs1)).trans (hB3.mono (by omega))
    have HO : Hid (OwnR w3 w.heap.size v 3 intL 1 (liveOut m) ∧ Below w.heap.size w w3) := ⟨by rw [HN.out]; exact own_baseX hown (by omega), hT3⟩
    clear hR2 hI2 hms hown hB3 hT3 hD hB2 hB2'
    go_wp2
    go_ret2
    exact ⟨⟨v, by rw [HQ.out]; rfl, HO.out.1⟩, HO.out.2⟩
end Go.Proofs.Ytoaancgmahdbnaa
