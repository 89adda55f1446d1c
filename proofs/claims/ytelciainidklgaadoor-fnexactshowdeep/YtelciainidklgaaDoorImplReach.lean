/-
  What impl's reached marks.
-/
import Derived.Test.YtelciainidklgaaDoorHeapIter
import Derived.Test.YtelciainidklgaaDoorSpecKeep
import Derived.Test.YtelciainidklgaaDoorRoundHeld
namespace Go.Proofs.YtelciainidklgaaDoor
open Go.RowKit Go.Shelf BL
set_option linter.unusedVariables false
attribute [local go_sem] Oper.semAt_some

set_option maxHeartbeats 1000000 in
theorem backward_any (o : Option Addr) (n c : Nat) (w : World) :
    Calls Tryd.prog 101 #[.slice o n c] w fun e w' => e = .returned (.func (.func 110) #[] #[.pointer (some ⟨w.heap.size, 0, none⟩)]) ∧ w' = w.alloc (.cells #[.slice o n c] 29) := by
  go_enter Tryd.func101, Tryd.ntmps101
  go_wp2
  go_ret
  exact ⟨rfl, rfl⟩

theorem rec1_set {w : World} {b : Nat} {ms : List Bool} (h : RecAt w b 4 boolL ms) (i : Nat) (x : Bool) : RecAt (w.setCell ⟨b, i, none⟩ (.bool x)) b 4 boolL (ms.set i x) := by
  have h1 := heap_setCell_same w b i _ _ (.bool x) h
  have e1 : ∀ l : List Bool, l.flatMap boolL = l.map Value.bool := fun l => by
    induction l with
    | nil => rfl
    | cons a l ih => rw [List.flatMap_cons, ih, List.map_cons]; rfl
  have e2 : ((ms.flatMap boolL).toArray).setIfInBounds i (.bool x) = ((ms.set i x).flatMap boolL).toArray := by
    rw [e1, e1, List.map_set]; simp
  rw [e2] at h1
  exact h1
theorem rec1_froz {w : World} {b : Nat} {ms : List Bool} (h : RecAt w b 4 boolL ms) (i : Nat) : w.frozen? ⟨b, i, none⟩ = false := frozen_of_row w b i _ _ h

/-- What holds between two rounds of reached: mb the marks' block, bs the box of what is gone through. -/
def RcI (cs : List Cl) (ms : List Bool) (w : World) (mb bs n : Nat) (o : Option Addr) (cap : Nat) (pre : List Nat) (W : World) : Prop :=
  (RecAt W mb 4 boolL (downM cs ms pre.length) ∧ Boxed W (mb + 1) 109 (.slice (some ⟨mb, 0, none⟩) n n)) ∧ (Boxed W bs 29 (.slice o n cap) ∧ InR W (.slice o n cap) cellL 4 cs) ∧ Below w.heap.size w W
/-- The slots of a round of reached. -/
def rcAct (hb old mb bs n nr : Nat) (o o2 : Option Addr) (cap c2 : Nat) (u6 u8 u20 u21 u22 u23 u24 u32 u33 u34 u35 u36 u37 : Value) (x : Nat) (lf : Bool) (kk a c : Int) (cb : Nat) : Act := ⟨#[.pointer (some ⟨hb, 0, none⟩), .int .i64 (old : Int), undef, undef, .slice none 0 0, .pointer (some ⟨mb + 1, 0, none⟩), u6, undef, u8, .int .i64 (x : Int), .pointer (some ⟨cb, 0, none⟩), .pointer (some ⟨hb, 0, none⟩), .pointer (some ⟨hb, 0, none⟩), .pointer (some ⟨hb, 1, none⟩), .slice o n cap, .int .i64 (n : Int), .slice (some ⟨mb, 0, none⟩) n n, .int .i64 (old : Int), .int .i64 (old : Int), .bool false, u20, u21, u22, u23, u24, .pointer (some ⟨hb, 0, none⟩), .pointer (some ⟨hb, 0, none⟩), .pointer (some ⟨hb, 2, none⟩), .slice o2 nr c2, .int .i64 (nr : Int), .int .i64 (nr : Int), .bool false, u32, u33, u34, u35, u36, u37, .pointer (some ⟨hb, 0, none⟩), .pointer (some ⟨hb, 0, none⟩), .pointer (some ⟨hb, 1, none⟩), .slice o n cap, .func (.func 110) #[] #[.pointer (some ⟨bs, 0, none⟩)], .int .i64 (x : Int), .agg #[.bool lf, .int .i64 kk, .int .i64 a, .int .i64 c], undef, undef, undef, undef, undef, undef, undef, undef, undef, undef, undef, undef, undef, undef, undef, undef, undef, undef], []⟩
theorem InR.turn {X : Type} [Inhabited X] {A B : World} {v : Value} {f : X → List Value} {c : Nat} {l : List X} {row : Option Nat} {w0 : Nat} (h : InR A v f c l) (hg : A.grownBy B row) (hr : TurnsN w0 A row) : InR B v f c l := by
  obtain ⟨o, cap, rfl, h⟩ := h
  refine ⟨o, cap, rfl, fun hl => ?_⟩
  obtain ⟨b, rfl, hb, hc⟩ := h hl
  exact ⟨b, rfl, Nat.lt_of_lt_of_le hb hg.size, fun i j u hi hu => cell_turn (hc i j u hi hu) hg hr⟩
theorem RcI.turn {cs : List Cl} {ms : List Bool} {w : World} {mb bs n : Nat} {o : Option Addr} {cap : Nat} {pre : List Nat} {A B : World} {row : Option Nat} {w0 : Nat} (h : RcI cs ms w mb bs n o cap pre A) (hg : A.grownBy B row) (hr : TurnsN w0 A row) (h0 : w.heap.size ≤ w0) : RcI cs ms w mb bs n o cap pre B :=
  ⟨⟨row_turn h.1.1 hg hr, row_turn h.1.2 hg hr⟩, ⟨row_turn h.2.1.1 hg hr, h.2.1.2.turn hg hr⟩, belowN_turn h.2.2 hg hr h0 (Nat.le_refl _)⟩

set_option maxRecDepth 100000 in
set_option maxHeartbeats 4000000 in
theorem reached_any (m : Hp) (hok : hpOk m = true) (old : Nat) (hold : old ≤ m.cells.length) (hb : Nat) (v1 v2 : Value) (w : World) (h1 : w.cell? ⟨hb, 1, none⟩ = some v1) (h2 : w.cell? ⟨hb, 2, none⟩ = some v2) (hM : HpRd w v1 v2 m) :
    Calls Tryd.prog 78 #[.pointer (some ⟨hb, 0, none⟩), .int .i64 (old : Int)] w fun e w' => (∃ b, e = .returned (slR b (reachM m old)) ∧ w.heap.size ≤ b ∧ RecAt w' b 4 boolL (reachM m old)) ∧ Below w.heap.size w w' := by
  obtain ⟨hl1, hl2, _, hcl, hrt⟩ := hpOk_all hok
  have hbl : hb < w.heap.size := block_lt_of_cell (a := ⟨hb, 1, none⟩) h1
  obtain ⟨o1, c1, e1, _⟩ := hM.1
  obtain ⟨o2, c2, e2, _⟩ := hM.2
  have HM := hideT' hM
  subst e1 e2
  obtain ⟨n, hn⟩ : ∃ n, n = m.cells.length := ⟨_, rfl⟩
  have HN := hideT' hn
  have hmk := make_bool n (by omega)
  have HRT := hideT' hrt
  have HCL := hideT' hcl
  rw [← hn] at h1 hold hl1 HM
  have HF : Hid (∀ w', Below w.heap.size w w' → w'.cell? ⟨hb, 1, none⟩ = some (.slice o1 n c1) ∧ w'.cell? ⟨hb, 2, none⟩ = some (.slice o2 m.roots.length c2)) := fun w' h => ⟨(h.cell (p := ⟨hb, 1, none⟩) hbl).trans h1, (h.cell (p := ⟨hb, 2, none⟩) hbl).trans h2⟩
  obtain ⟨w0, hw0⟩ : ∃ w0, w0 = (w.alloc (.cells ((List.replicate n false).flatMap boolL).toArray 4)).alloc (.cells #[.slice (some ⟨w.heap.size, 0, none⟩) n n] 109) := ⟨_, rfl⟩
  have hD0 : RecAt w0 w.heap.size 4 boolL (firstM n 0) := by rw [hw0]; exact RowAt.old (RowAt.new w _ _) _
  have hX0 : Boxed w0 (w.heap.size + 1) 109 (.slice (some ⟨w.heap.size, 0, none⟩) n n) := by
    rw [hw0]
    have := Boxed.new (w.alloc (.cells ((List.replicate n false).flatMap boolL).toArray 4)) 109 (.slice (some ⟨w.heap.size, 0, none⟩) n n)
    rwa [World.size_alloc] at this
  have hB0 : Below w.heap.size w w0 := by rw [hw0]; exact ((Below.refl _ _).alloc (Nat.le_refl _) _).alloc (by simp) _
  have HW0 := hideT' hw0
  have H0 := hideT' (And.intro hD0 (And.intro hX0 hB0))
  clear hn hM hrt hcl hw0 hD0 hX0 hB0
  refine (callsIn_wide (n := 3)).1 ?_
  refine callsIn_of_wp_marks Tryd.func78 rfl trivial ?_ rfl
  simp only [Tryd.ntmps78, List.size_toArray, List.length_cons, List.length_nil, Nat.reduceAdd, Nat.reduceSub, Array.replicate_succ, Array.replicate_zero, List.push_toArray, List.append_toArray, List.nil_append, List.cons_append]
  gi_wp2
  clear hmk
  rw [← HW0.out]
  clear h1 h2
  gi_loopw [18] (fun x wr => ∃ k : Nat, x = .int .i64 (k : Int) ∧ k ≤ old ∧ RecAt wr w.heap.size 4 boolL (firstM n k) ∧ Boxed wr (w.heap.size + 1) 109 (.slice (some ⟨w.heap.size, 0, none⟩) n n) ∧ Below w.heap.size w wr) (fun x wr => old + 1 - upN x)
  case atStart => exact ⟨0, by go_num, by omega, H0.out.1, H0.out.2.1, H0.out.2.2⟩
  case round =>
    obtain ⟨k, rfl, hk, hD, hX, hW⟩ := hrel
    have hxc := hX.cell
    by_cases hlt : (k : Int) < (old : Int)
    · have hk' : k < n := by omega
      have hkn : (k : Int) < (n : Int) := by omega
      have hc := bool_cell hD (i := k) (by rw [firstM_len (by omega)]; exact hk')
      have hf := rec1_froz hD k
      have HD := hideT' (rec1_set hD k true)
      have hg := grown_set wr w.heap.size k (.bool true)
      have HX := hideT' (Boxed.kept hX hg (by intro e; injection e; omega))
      have HW := hideT' (hW.grown hg hW.size (fun j e => by cases e; exact Nat.le_refl _))
      clear hD hX hg hW
      gi_wp2
      go_roundw
      case rel => exact ⟨k + 1, by go_num, by omega, by rw [← firstM_set hk']; exact HD.out, HX.out, HW.out⟩
      case measure => simp [upN]; omega
    · have hko : k = old := by omega
      subst hko
      have H1 := hideT' (And.intro hD (And.intro hX hW))
      obtain ⟨f1, f2⟩ := HF.out wr hW
      clear hD hX hW hxc
      gi_wp2
      gi_loopw [30] (fun x wr => ∃ j : Nat, x = .int .i64 (j : Int) ∧ j ≤ m.roots.length ∧ RecAt wr w.heap.size 4 boolL (rootsM (firstM n k) (m.roots.take j)) ∧ Boxed wr (w.heap.size + 1) 109 (.slice (some ⟨w.heap.size, 0, none⟩) n n) ∧ Below w.heap.size w wr) (fun x wr => m.roots.length + 1 - upN x)
      case atStart => exact ⟨0, by go_num, by omega, H1.out.1, H1.out.2.1, H1.out.2.2⟩
      case round =>
        clear f1 f2
        obtain ⟨j, rfl, hj, hD, hX, hW⟩ := hrel
        obtain ⟨f1, f2⟩ := HF.out wr hW
        have hxc := hX.cell
        by_cases hltj : (j : Int) < (m.roots.length : Int)
        · have hj' : j < m.roots.length := by omega
          obtain ⟨r, hr, hrl⟩ := HRT.out j hj'
          obtain ⟨o', cap', ee, hin⟩ := (HM.out.2.below hW)
          cases ee
          obtain ⟨g2, rfl, hgl, hcl2⟩ := hin (by intro e; rw [e] at hj'; simp at hj')
          have hcell : wr.cell? ⟨g2, j, none⟩ = some (.int .i64 (r : Int)) := by
            have := hcl2 j 0 (.int .i64 (m.roots.getD j default)) hj' rfl
            rwa [Nat.mul_one, Nat.add_zero, hr] at this
          have hrn : (r : Int) < (n : Int) := by have := HN.out; omega
          have hc := bool_cell hD (i := r) (by rw [rootsM_len, firstM_len (by omega)]; omega)
          have hf := rec1_froz hD r
          have HD := hideT' (rec1_set hD r true)
          have hg := grown_set wr w.heap.size r (.bool true)
          have HX := hideT' (Boxed.kept hX hg (by intro e; injection e; omega))
          have HW := hideT' (hW.grown hg hW.size (fun j e => by cases e; exact Nat.le_refl _))
          have HTK : Hid (rootsM (firstM n k) (m.roots.take (j + 1)) = (rootsM (firstM n k) (m.roots.take j)).set r true) := by unfold Hid; rw [rootsM_take hj', hr]; rfl
          clear hD hX hg hW hr hrl hin hcl2
          gi_wp2
          go_roundw
          case rel => exact ⟨j + 1, by go_num, by omega, by rw [HTK.out]; exact HD.out, HX.out, HW.out⟩
          case measure => simp [upN]; omega
        · have hjr : j = m.roots.length := by omega
          subst hjr
          rw [List.take_length] at hD
          have H2 := hideT' (And.intro hD (And.intro hX hW))
          clear hD hX hW hxc
          gi_wp2_with (refine ⟨trivial, ?_⟩; gi_at_call 101; refine (callsIn_wide.2 (backward_any _ _ _ _)).mono ?_; rintro e w3 ⟨rfl, rfl⟩)
          obtain ⟨wz, hwz⟩ : ∃ wz, wz = wr := ⟨_, rfl⟩
          obtain ⟨hD, hX, hW⟩ := H2.out
          have hbz := hX.lt
          have hI0 : RcI m.cells (rootsM (firstM n k) m.roots) w w.heap.size wr.heap.size n o1 c1 [] (wr.alloc (.cells #[.slice o1 n c1] 29)) :=
            ⟨⟨RowAt.old hD _, hX.alloc _⟩, ⟨Boxed.new _ _ _, (HM.out.1.below hW).below ((Below.refl _ _).alloc (Nat.le_refl _) _)⟩, hW.alloc hW.size _⟩
          have hseq := backward_seq 2 (by omega) m.cells (by have := HN.out; omega) wr.heap.size o1 c1
          have HW0S := hideT' hW.size
          clear hD hX f1 f2 H0 H1 H2 HW0
          refine range_any (n := 3) (gf := 110) (lb := #[.pointer (some ⟨wr.heap.size, 0, none⟩)]) (by rfl) (enters_of Tryd.func110 (by kernel_rfl) rfl) (encC m.cells) (fun x => rfl) _ _ _ hseq
            (RcI m.cells (rootsM (firstM n k) m.roots) w w.heap.size wr.heap.size n o1 c1) (fun s A B row h hg hr => h.turn hg hr (by simp; omega)) (fun s A h => ⟨by rw [← HN.out]; exact h.2.1.1.cell, by rw [← HN.out]; exact h.2.1.2⟩) hI0
            (fun pre x c W => ∃ lf kk a cc cb, (lf, kk, a, cc) = m.cells.getD x default ∧ c = rcAct hb k w.heap.size wr.heap.size n m.roots.length o1 o2 c1 c2 u6 u8 u20 u21 u22 u23 u24 u32 u33 u34 u35 u36 u37 x lf kk a cc cb ∧ RowAt W cb 99 #[.bool lf, .int .i64 kk, .int .i64 a, .int .i64 cc] ∧ wr.heap.size < cb ∧ RcI m.cells (rootsM (firstM n k) m.roots) w w.heap.size wr.heap.size n o1 c1 pre W) ?ax ?assign ?body ?done
          case ax =>
            rintro s x c A B row ⟨lf, kk, a, cc, cb, h1, h2, h3, h4, h5⟩ hg hr
            exact ⟨lf, kk, a, cc, cb, h1, h2, row_turn h3 hg hr, h4, h5.turn hg hr (by simp; omega)⟩
          case assign =>
            intro l pre x W K hNx hI hK
            obtain ⟨d, hd⟩ : ∃ d, d = m.cells.getD x default := ⟨_, rfl⟩
            obtain ⟨lf, kk, a, cc⟩ := d
            have hzc := zero_cell.1
            have HD := hideT' hd
            have HI := hideT' hI
            have HK := hideT' hK
            rw [encC_eq hd]
            clear hd hI hK hNx hI0 hseq
            gi_wp2
            refine HK.out _ _ ⟨lf, kk, a, cc, W.heap.size, HD.out, rfl, RowAt.new _ _ _, ?_, ?_⟩ (KeepsOthers.alloc W _)
            · exact HI.out.2.1.1.lt
            · obtain ⟨⟨h1, h2⟩, ⟨h3, h4⟩, h5⟩ := HI.out
              exact ⟨⟨RowAt.old h1 _, h2.alloc _⟩, ⟨h3.alloc _, h4.below ((Below.refl _ _).alloc (Nat.le_refl _) _)⟩, h5.alloc h5.size _⟩
          case body =>
            rintro l pre x c W hNx ⟨lf, kk, a, cc, cb, hd, rfl, hR, hcb, hI⟩
            unfold rcAct
            obtain ⟨⟨hD, hX⟩, ⟨hXs, hin⟩, hW⟩ := hI
            obtain ⟨hxn, hxl⟩ := hNx
            have hpair := pair_at HCL.out hxn
            rw [← hd] at hpair
            obtain ⟨ms', hms'⟩ : ∃ ms', ms' = downM m.cells (rootsM (firstM n k) m.roots) pre.length := ⟨_, rfl⟩
            rw [← hms'] at hD
            have hml : ms'.length = n := by rw [hms', downM_len, rootsM_len, firstM_len hold]
            have HST : Hid (downM m.cells (rootsM (firstM n k) m.roots) (pre ++ [x]).length = stepM m.cells ms' x) := by
              unfold Hid
              rw [List.length_append, List.length_singleton, downM, ← hms', show m.cells.length - 1 - pre.length = x by omega]
            have hbit := bool_cell hD (i := x) (by have := HN.out; omega)
            have hxc := hX.cell
            have r0 : W.cell? ⟨cb, 0, none⟩ = some (.bool lf) := by rw [cell_of_row W _ _ _ _ _ hR]; rfl
            have hxi : (x : Int) < (n : Int) := by have := HN.out; omega
            obtain ⟨q, hq⟩ : ∃ q, q = bAt ms' x := ⟨_, rfl⟩
            rw [← hq] at hbit
            have HQ := hideT' hq
            have HDD := hideT' hd
            have HML := hideT' hml
            have HI3 := hideT' (And.intro hD (And.intro hX (And.intro hXs (And.intro hin hW))))
            have HR := hideT' hR
            clear hms' hd hq hml hD hX hXs hin hW hR hI0 hseq hxn hxl
            cases q with
            | false =>
              have HS2 : Hid (stepM m.cells ms' x = ms') := by unfold Hid stepM; rw [← HQ.out]; rfl
              clear hpair
              gi_wp2
              obtain ⟨hD, hX, hXs, hin, hW⟩ := HI3.out
              exact ⟨KeepsOthers.refl W, ⟨by rw [HST.out, HS2.out]; exact hD, hX⟩, ⟨hXs, hin⟩, hW⟩
            | true =>
            cases lf with
            | true =>
              have HS2 : Hid (stepM m.cells ms' x = ms') := by unfold Hid stepM; rw [← HQ.out, ← HDD.out]; rfl
              clear hpair
              gi_wp2
              obtain ⟨hD, hX, hXs, hin, hW⟩ := HI3.out
              exact ⟨KeepsOthers.refl W, ⟨by rw [HST.out, HS2.out]; exact hD, hX⟩, ⟨hXs, hin⟩, hW⟩
            | false =>
              obtain ⟨hn0, A, C, hA, hC, hAi, hCi⟩ := hpair rfl
              simp only at hn0 hA hC
              have HS2 : Hid (stepM m.cells ms' x = (ms'.set A true).set C true) := by unfold Hid stepM; rw [← HQ.out, ← HDD.out]; simp only; rw [hA, hC]; rfl
              subst hn0 hA hC
              have hAn : (A : Int) < (n : Int) := by omega
              have hCn : (C : Int) < (n : Int) := by omega
              gi_wp2
              have hX1 : Boxed W.drew (w.heap.size + 1) 109 (.slice (some ⟨w.heap.size, 0, none⟩) n n) := HI3.out.2.1
              have hR1 : RowAt W.drew cb 99 #[.bool false, .int .i64 0, .int .i64 (A : Int), .int .i64 (C : Int)] := HR.out
              have hS : Boxed W.drew (w.heap.size + 1) 109 (.slice (some ⟨w.heap.size, 0, none⟩) n n) ∧ RowAt W.drew cb 99 #[.bool false, .int .i64 0, .int .i64 (A : Int), .int .i64 (C : Int)] := ⟨hX1, hR1⟩
              have hcbw := hX1.lt
              refine held_round (fun w' => Boxed w' (w.heap.size + 1) 109 (.slice (some ⟨w.heap.size, 0, none⟩) n n) ∧ RowAt w' cb 99 #[.bool false, .int .i64 0, .int .i64 (A : Int), .int .i64 (C : Int)]) (by kernel_rfl) (by kernel_rfl) ?_
              refine held_valS 0 (some 54) rfl rfl (by kernel_rfl) (by kernel_rfl) (by kernel_rfl) calm_put rfl (.slice (some ⟨w.heap.size, 0, none⟩) n n) (fun w' h => run_cell1 (.tmp 5) 109 rfl ⟨w.heap.size + 1, 0, none⟩ rfl _ Tryd.underlying109 rfl h.1.cell) hS ?_
              simp only [Act.put, List.setIfInBounds_toArray, List.set_cons_zero, List.set_cons_succ]
              refine held_val 1 (some 55) rfl rfl (by kernel_rfl) (by kernel_rfl) (by kernel_rfl) calm_put rfl (.pointer (some ⟨cb, 2, none⟩)) (fun _ => by go_simp) hS ?_
              simp only [Act.put, List.setIfInBounds_toArray, List.set_cons_zero, List.set_cons_succ]
              refine held_valS 2 (some 56) rfl rfl (by kernel_rfl) (by kernel_rfl) (by kernel_rfl) calm_put rfl (.int .i64 (A : Int)) (fun w' h => run_cell1 (.tmp 55) 3 rfl ⟨cb, 2, none⟩ rfl _ Tryd.underlying3 rfl (by rw [cell_of_row w' _ _ _ _ _ h.2]; rfl)) hS ?_
              simp only [Act.put, List.setIfInBounds_toArray, List.set_cons_zero, List.set_cons_succ]
              refine held_valS 3 (some 57) rfl rfl (by kernel_rfl) (by kernel_rfl) (by kernel_rfl) calm_put rfl (.slice (some ⟨w.heap.size, 0, none⟩) n n) (fun w' h => run_cell1 (.tmp 5) 109 rfl ⟨w.heap.size + 1, 0, none⟩ rfl _ Tryd.underlying109 rfl h.1.cell) hS ?_
              simp only [Act.put, List.setIfInBounds_toArray, List.set_cons_zero, List.set_cons_succ]
              refine held_val 4 (some 58) rfl rfl (by kernel_rfl) (by kernel_rfl) (by kernel_rfl) calm_put rfl (.pointer (some ⟨cb, 3, none⟩)) (fun _ => by go_simp) hS ?_
              simp only [Act.put, List.setIfInBounds_toArray, List.set_cons_zero, List.set_cons_succ]
              refine held_valS 5 (some 59) rfl rfl (by kernel_rfl) (by kernel_rfl) (by kernel_rfl) calm_put rfl (.int .i64 (C : Int)) (fun w' h => run_cell1 (.tmp 58) 3 rfl ⟨cb, 3, none⟩ rfl _ Tryd.underlying3 rfl (by rw [cell_of_row w' _ _ _ _ _ h.2]; rfl)) hS ?_
              simp only [Act.put, List.setIfInBounds_toArray, List.set_cons_zero, List.set_cons_succ]
              refine held_val 6 (some 60) rfl rfl (by kernel_rfl) (by kernel_rfl) (by kernel_rfl) calm_put rfl (.pointer (some ⟨w.heap.size, A, none⟩)) (fun _ => by go_simp) hS ?_
              simp only [Act.put, List.setIfInBounds_toArray, List.set_cons_zero, List.set_cons_succ]
              refine held_step 7 (by kernel_rfl) rfl rfl fun K7 hK7 => ?_
              refine rec1_wp 4 _ _ rfl rfl (fun x : Bool => .bool x) (fun _ => rfl) size1_bool w.heap.size A true rfl rfl ms' HI3.out.1 (by have := HML.out; omega) ?_
              intro w7 hD7 hg7 hs7
              have hS7 : Boxed w7 (w.heap.size + 1) 109 (.slice (some ⟨w.heap.size, 0, none⟩) n n) ∧ RowAt w7 cb 99 #[.bool false, .int .i64 0, .int .i64 (A : Int), .int .i64 (C : Int)] := ⟨hX1.kept hg7 (by intro e; injection e; omega), hR1.grown hg7 (by intro e; injection e; omega)⟩
              refine hK7.out _ _ hS7 ?_
              refine held_val 8 (some 61) rfl rfl (by kernel_rfl) (by kernel_rfl) (by kernel_rfl) calm_put rfl (.pointer (some ⟨w.heap.size, C, none⟩)) (fun _ => by go_simp) hS7 ?_
              simp only [Act.put, List.setIfInBounds_toArray, List.set_cons_zero, List.set_cons_succ]
              refine held_step 9 (by kernel_rfl) rfl rfl fun K9 hK9 => ?_
              refine rec1_wp 4 _ _ rfl rfl (fun x : Bool => .bool x) (fun _ => rfl) size1_bool w.heap.size C true rfl rfl (ms'.set A true) hD7 (by rw [List.length_set]; have := HML.out; omega) ?_
              intro w9 hD9 hg9 hs9
              have hS9 : Boxed w9 (w.heap.size + 1) 109 (.slice (some ⟨w.heap.size, 0, none⟩) n n) ∧ RowAt w9 cb 99 #[.bool false, .int .i64 0, .int .i64 (A : Int), .int .i64 (C : Int)] := ⟨hS7.1.kept hg9 (by intro e; injection e; omega), hS7.2.grown hg9 (by intro e; injection e; omega)⟩
              refine hK9.out _ _ hS9 ?_
              refine wpAnyH_done (by kernel_rfl) ?_ _
              refine Calm.normal ?_
              have hgg : W.grownBy w9 (some w.heap.size) := by
                have g1 : W.grownBy W.drew (some w.heap.size) := ⟨rfl, rfl, rfl, Nat.le_refl _, fun _ _ _ => rfl⟩
                exact grownX_trans (grownX_trans g1 hg7) hg9
              obtain ⟨hD, hX, hXs, hin, hW⟩ := HI3.out
              have HFIN : Hid (anyPost (RcI m.cells (rootsM (firstM n k) m.roots) w w.heap.size wr.heap.size n o1 c1 (pre ++ [x])) W .normal ⟨#[], []⟩ w9) := by
                refine ⟨KeepsOthers.of_grownBy hgg (fun j ob e hj => ?_), ⟨by rw [HST.out, HS2.out]; exact hD9, hS9.1⟩, ⟨hXs.kept hgg (by intro e; injection e; omega), hin.grown hgg (fun _ e => ?_)⟩, hW.grown hgg hW.size (fun j e => by cases e; exact Nat.le_refl _)⟩
                · cases e
                  rw [show W.heap[w.heap.size]? = _ from hD] at hj
                  cases hj; rfl
                · obtain ⟨o', cap', e1, h1⟩ := HM.out.1
                  cases e1
                  obtain ⟨g, rfl, hgl, _⟩ := h1 (by assumption)
                  simp [Value.ownBlock] at e
                  omega
              gi_wp2
              exact HFIN.out
          case done =>
            intro D xs W hD hS hI hK
            obtain ⟨⟨hDm, hX⟩, ⟨hXs, hin⟩, hW⟩ := hI
            rw [hS] at hDm
            have hxc := hX.cell
            have HDM : Hid (RecAt W w.heap.size 4 boolL (reachM m k)) := by unfold Hid reachM; rw [← HN.out]; exact (by rw [← HN.out] at hDm; exact hDm)
            have HRL : Hid ((reachM m k).length = n) := by unfold Hid; rw [HN.out]; exact reachM_len (by rw [← HN.out]; exact hold)
            have HW := hideT' hW
            have HKD := hideT' hK
            clear hDm hX hXs hin hW hI0 hseq hK hS
            gi_wp2
            refine leave_marks (v := .slice (some ⟨w.heap.size, 0, none⟩) n n) HKD.out (by simp [results, Tryd.results78, go_sem]) ⟨⟨w.heap.size, by rw [slR, HRL.out], Nat.le_refl _, row_put HDM.out HKD.out rfl⟩, below_put HW.out ?_ HW.out.size⟩
            have := HW0S.out
            simp only [World.size_alloc] at hD
            omega
end Go.Proofs.YtelciainidklgaaDoor
