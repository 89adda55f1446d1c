/-
  What spec.l7Keep marks.
-/
import Derived.Test.YtelciainidklgaaDoorHeapMath
namespace Go.Proofs.YtelciainidklgaaDoor
open Go.RowKit
set_option linter.unusedVariables false

theorem grown_alloc (w : World) (o : Obj) (r : Option Nat) : w.grownBy (w.alloc o) r := ⟨rfl, rfl, rfl, by simp, fun k hk _ => Below.heap_alloc _ _ _ hk⟩
theorem grown_refl (w : World) (r : Option Nat) : w.grownBy w r := ⟨rfl, rfl, rfl, Nat.le_refl _, fun _ _ _ => rfl⟩
theorem InR.cellAt {X : Type} [Inhabited X] {w w' : World} {f : X → List Value} {c : Nat} {l : List X} {o : Option Addr} {n cap b : Nat} (h : InR w (.slice o n cap) f c l) (hg : w.grownBy w' (some b)) (hb : ∀ g : Nat, o = some ⟨g, 0, none⟩ → g ≠ b) {i : Nat} (hi : i < l.length) :
    ∃ g, o = some ⟨g, 0, none⟩ ∧ ∀ j u, (f (l.getD i default))[j]? = some u → w'.cell? ⟨g, i * c + j, none⟩ = some u := by
  obtain ⟨o', cap', e, h⟩ := h
  cases e
  obtain ⟨g, rfl, hlt, hc⟩ := h (by intro e; rw [e] at hi; simp at hi)
  refine ⟨g, rfl, fun j u hu => ?_⟩
  exact hg.cell (hc i j u hi hu) (by simpa using hb g rfl)

/-- A value whose row, if it has one, is not the block b. -/
def Apart (v : Value) (b : Nat) : Prop := ∀ g n cap, 0 < n → v = .slice (some ⟨g, 0, none⟩) n cap → g ≠ b
theorem InR.apart {X : Type} [Inhabited X] {w : World} {v : Value} {f : X → List Value} {c : Nat} {l : List X} (h : InR w v f c l) {b : Nat} (hb : w.heap.size ≤ b) : Apart v b := fun g n cap hn e => by
  obtain ⟨o, cap', rfl, h⟩ := h
  cases e
  obtain ⟨g', e, hlt, _⟩ := h (by intro e; rw [e] at hn; simp at hn)
  cases e
  omega

set_option maxHeartbeats 4000000 in
set_option maxRecDepth 100000 in
theorem l7Keep_any (m : Hp) (hok : hpOk m = true) (v1 v2 : Value) (b : Nat) (ms : List Bool) (w : World) (hM : HpRd w v1 v2 m) (h1 : Apart v1 b) (h2 : Apart v2 b) (hms : ms.length = m.cells.length) (hD : RecAt w b 4 boolL ms) :
    Calls Tryd.prog 109 #[.agg #[.int .i64 m.old, v1, v2], slR b ms] w fun e w' => e = .returned (slR b ms) ∧ RecAt w' b 4 boolL (downM m.cells (rootsM ms m.roots) m.cells.length) ∧ w.grownBy w' (some b) := by
  obtain ⟨hl1, hl2, hold, hcl, hrt⟩ := hpOk_all hok
  obtain ⟨old, cells, roots⟩ := m
  simp only at hl1 hl2 hold hcl hrt hms
  have HM := hideT' hM
  obtain ⟨o1, c1, e1, _⟩ := hM.1
  obtain ⟨o2, c2, e2, _⟩ := hM.2
  simp only at e1 e2
  subst e1 e2
  have HA1 : Hid (0 < cells.length → ∀ g : Nat, o1 = some ⟨g, 0, none⟩ → g ≠ b) := fun hp g e => h1 g _ _ hp (by rw [e])
  have HA2 : Hid (0 < roots.length → ∀ g : Nat, o2 = some ⟨g, 0, none⟩ → g ≠ b) := fun hp g e => h2 g _ _ hp (by rw [e])
  have HRT := hideT' hrt
  have HCL := hideT' hcl
  have hbl := hD.lt
  have HD := hideT' hD
  have hzc := zero_cell.1
  have HMS := hideT' hms
  -- what every later world knows
  have HF : Hid (∀ w', w.grownBy w' (some b) → RowAt w' w.heap.size 50 #[.int .i64 old, .slice o1 cells.length c1, .slice o2 roots.length c2] → (w'.cell? ⟨w.heap.size, 1, none⟩ = some (.slice o1 cells.length c1) ∧ w'.cell? ⟨w.heap.size, 2, none⟩ = some (.slice o2 roots.length c2))) := by
    intro w' _ hr
    refine ⟨?_, ?_⟩ <;> (rw [cell_of_row w' _ _ _ _ _ hr]; rfl)
  have HR0 : Hid (RowAt (w.alloc (.cells #[.int .i64 old, .slice o1 cells.length c1, .slice o2 roots.length c2] 50)) w.heap.size 50 #[.int .i64 old, .slice o1 cells.length c1, .slice o2 roots.length c2]) := RowAt.new _ _ _
  obtain ⟨n, hn⟩ : ∃ n, n = ms.length := ⟨_, rfl⟩
  have HN := hideT' hn
  have hnc : n = cells.length := by rw [hn, hms]
  have hsl : slR b ms = .slice (some ⟨b, 0, none⟩) n n := by rw [hn]
  rw [hsl]
  have HNC := hideT' hnc
  have hn200 : n ≤ 200 := by omega
  clear hM h1 h2 hrt hcl hD hms hn hsl hnc
  go_enter Tryd.func109, Tryd.ntmps109
  go_wp2_with fail
  go_loopg [12] roots.length (fun g i wr => ∃ k : Nat, g = roots.length - k ∧ k ≤ roots.length ∧ i = .int .i64 (k : Int) ∧ RecAt wr b 4 boolL (rootsM ms (roots.take k)) ∧ RowAt wr w.heap.size 50 #[.int .i64 old, .slice o1 cells.length c1, .slice o2 roots.length c2] ∧ w.grownBy wr (some b))
  case atStart => exact ⟨0, rfl, by omega, by go_num, RowAt.old HD.out _, HR0.out, grown_alloc _ _ _⟩
  case round =>
    obtain ⟨k, hg, hk, rfl, hD, hR, hG⟩ := hrel
    obtain ⟨f1, f2⟩ := HF.out wr hG hR
    by_cases hlt : (k : Int) < (roots.length : Int)
    · have hk' : k < roots.length := by omega
      obtain ⟨g2, hob, hcl⟩ := InR.cellAt HM.out.2 hG (HA2.out (by omega)) hk'
      subst hob
      obtain ⟨r, hr, hrl⟩ := HRT.out k hk'
      have hcell : wr.cell? ⟨g2, k, none⟩ = some (.int .i64 (r : Int)) := by
        have := hcl 0 (.int .i64 (roots.getD k default)) rfl
        rwa [Nat.mul_one, Nat.add_zero, hr] at this
      have HTK : Hid (rootsM ms (roots.take (k + 1)) = (rootsM ms (roots.take k)).set r true) := by unfold Hid; rw [rootsM_take hk', hr]; rfl
      have hrn : (r : Int) < (n : Int) := by have := HNC.out; omega
      have HRL : Hid (r < (rootsM ms (roots.take k)).length) := by unfold Hid; rw [rootsM_len, HMS.out]; exact hrl
      clear hr hcl hrl f1 f2
      go_wp2_with (refine store_rec1 rfl 4 _ _ rfl rfl (fun x : Bool => .bool x) (fun _ => rfl) size1_bool b r true rfl rfl _ hD HRL.out ?_; intro w3 hD3 hg3 hs3)
      go_roundg (roots.length - (k + 1))
      case measure => omega
      case rel => exact ⟨k + 1, rfl, by omega, by go_num, by rw [HTK.out]; exact hD3, hR.grown hg3 (by intro e; injection e; omega), grownX_trans hG hg3⟩
    · have hkn : k = roots.length := by omega
      have HD1 : Hid (RecAt wr b 4 boolL (rootsM ms roots)) := by unfold Hid; rw [hkn, List.take_length] at hD; exact hD
      have HR1 := hideT' hR
      have HG1 := hideT' hG
      clear hD hR hG f2
      go_wp2_with fail
      go_loopg [7] n (fun g i wr => ∃ (j : Nat) (x : Int), g = j ∧ j ≤ n ∧ i = .int .i64 x ∧ x = (j : Int) - 1 ∧ RecAt wr b 4 boolL (downM cells (rootsM ms roots) (n - j)) ∧ RowAt wr w.heap.size 50 #[.int .i64 old, .slice o1 cells.length c1, .slice o2 roots.length c2] ∧ w.grownBy wr (some b))
      case atStart => exact ⟨n, (n : Int) - 1, rfl, Nat.le_refl _, by have := HNC.out; go_num, rfl, by rw [Nat.sub_self]; exact HD1.out, HR1.out, HG1.out⟩
      case round =>
        clear f1
        obtain ⟨j, x, hg2, hj, rfl, hx, hD, hR, hG⟩ := hrel
        obtain ⟨f1, f2⟩ := HF.out wr hG hR
        by_cases hj0 : j = 0
        · subst hj0
          have hx1 : x = -1 := by omega
          subst hx1
          have HD2 : Hid (RecAt wr b 4 boolL (downM cells (rootsM ms roots) cells.length)) := by unfold Hid; rw [← HNC.out]; exact hD
          have HSL : Hid (slR b ms = .slice (some ⟨b, 0, none⟩) n n) := by unfold Hid; rw [HN.out]
          clear hx
          go_wp2
          go_ret
          exact ⟨by rfl, HD2.out, hG⟩
        · obtain ⟨p, rfl⟩ : ∃ p, j = p + 1 := ⟨j - 1, by omega⟩
          have hxp : x = (p : Int) := by omega
          subst hxp
          have hpn : p < cells.length := by have := HNC.out; omega
          obtain ⟨g1, hob, hcl⟩ := InR.cellAt HM.out.1 hG (HA1.out (by omega)) hpn
          subst hob
          simp only at hcl
          obtain ⟨ms', hms'⟩ : ∃ ms', ms' = downM cells (rootsM ms roots) (n - (p + 1)) := ⟨_, rfl⟩
          rw [← hms'] at hD
          have hml : ms'.length = n := by rw [hms', downM_len, rootsM_len, HN.out]
          have HST : Hid (downM cells (rootsM ms roots) (n - p) = stepM cells ms' p) := by
            unfold Hid
            have e1 : n - p = (n - (p + 1)) + 1 := by omega
            rw [e1, downM, ← hms', show cells.length - 1 - (n - (p + 1)) = p by have := HNC.out; omega]
          have hbit := bool_cell hD (i := p) (by omega)
          have hpair := pair_at HCL.out hpn
          obtain ⟨d, hd⟩ : ∃ d, d = cells.getD p default := ⟨_, rfl⟩
          rw [← hd] at hcl hpair
          obtain ⟨lf, nn, a, c⟩ := d
          have q0 := hcl 0 (.bool lf) rfl
          have q1 := hcl 1 (.int .i64 nn) rfl
          have q2 := hcl 2 (.int .i64 a) rfl
          have q3 := hcl 3 (.int .i64 c) rfl
          rw [Nat.add_zero] at q0
          have hpl : (p : Int) < (cells.length : Int) := by omega
          have hpn' : (p : Int) < (n : Int) := by have := HNC.out; omega
          have HGn : Hid (∀ o : Obj, w.grownBy (wr.alloc o) (some b)) := fun o => grownX_trans hG (grown_alloc _ _ _)
          have hbr := hD.lt
          have hwr := hR.lt
          obtain ⟨q, hq⟩ : ∃ q, q = bAt ms' p := ⟨_, rfl⟩
          rw [← hq] at hbit
          have HQ := hideT' hq
          have HDD := hideT' hd
          have HML := hideT' hml
          have hxx : ((p : Int) + 1) - 1 = (p : Int) := by omega
          clear hms' hcl hd hq hx hxx hml
          cases q with
          | false =>
            have HS2 : Hid (stepM cells ms' p = ms') := by unfold Hid stepM; rw [← HQ.out]; rfl
            clear hpair
            go_wp2
            go_roundg p
            case measure => omega
            case rel => exact ⟨p, (p : Int) - 1, rfl, by omega, by go_num, rfl, by rw [HST.out, HS2.out]; exact RowAt.old hD _, hR.old _, HGn.out _⟩
          | true =>
            cases lf with
            | true =>
              have HS2 : Hid (stepM cells ms' p = ms') := by unfold Hid stepM; rw [← HQ.out, ← HDD.out]; rfl
              clear hpair
              go_wp2
              go_roundg p
              case measure => omega
              case rel => exact ⟨p, (p : Int) - 1, rfl, by omega, by go_num, rfl, by rw [HST.out, HS2.out]; exact RowAt.old hD _, hR.old _, HGn.out _⟩
            | false =>
              obtain ⟨hn0, A, C, hA, hC, hAi, hCi⟩ := hpair rfl
              simp only at hn0 hA hC
              have HS2 : Hid (stepM cells ms' p = (ms'.set A true).set C true) := by unfold Hid stepM; rw [← HQ.out, ← HDD.out]; simp only; rw [hA, hC]; rfl
              subst hn0 hA hC
              have hAn : (A : Int) < (n : Int) := by omega
              have hCn : (C : Int) < (n : Int) := by omega
              have HDn : Hid (RecAt (wr.alloc (.cells #[.bool false, .int .i64 0, .int .i64 A, .int .i64 C] 99)) b 4 boolL ms') := RowAt.old hD _
              have HRn : Hid (RowAt (wr.alloc (.cells #[.bool false, .int .i64 0, .int .i64 A, .int .i64 C] 99)) w.heap.size 50 #[.int .i64 old, .slice (some ⟨g1, 0, none⟩) cells.length c1, .slice o2 roots.length c2]) := hR.old _
              have HK : Hid (∀ w3, (wr.alloc (.cells #[.bool false, .int .i64 0, .int .i64 A, .int .i64 C] 99)).grownBy w3 (some b) → w3.cell? ⟨wr.heap.size, 3, none⟩ = some (.int .i64 C)) := fun w3 hg => by
                have := RowAt.grown (RowAt.new wr 99 #[.bool false, .int .i64 0, .int .i64 A, .int .i64 C]) hg (by intro e; injection e; omega)
                rw [cell_of_row w3 _ _ _ _ _ this]; rfl
              clear hD hR
              go_wp2_with (first | (refine store_rec1 rfl 4 _ _ rfl rfl (fun x : Bool => .bool x) (fun _ => rfl) size1_bool b A true rfl rfl ms' HDn.out (by have := HML.out; omega) ?_; intro w3 hD3 hg3 hs3; have hk3 := HK.out w3 hg3) | (refine store_rec1 rfl 4 _ _ rfl rfl (fun x : Bool => .bool x) (fun _ => rfl) size1_bool b C true rfl rfl (ms'.set A true) hD3 (by rw [List.length_set]; have := HML.out; omega) ?_; intro w4 hD4 hg4 hs4))
              go_roundg p
              case measure => omega
              case rel =>
                exact ⟨p, (p : Int) - 1, rfl, by omega, by go_num, rfl, by rw [HST.out, HS2.out]; exact hD4, (HRn.out.grown hg3 (by intro e; injection e; omega)).grown hg4 (by intro e; injection e; omega), grownX_trans (grownX_trans (HGn.out _) hg3) hg4⟩
end Go.Proofs.YtelciainidklgaaDoor
