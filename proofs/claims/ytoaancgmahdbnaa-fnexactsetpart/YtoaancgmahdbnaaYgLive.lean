/-
  What live of the program marks.
-/
import Derived.Test.YtoaancgmahdbnaaYgDfs
namespace Go.Proofs.Ytoaancgmahdbnaa
open Go.RowKit Go.Shelf BL
set_option linter.unusedVariables false
attribute [local go_sem] Oper.semAt_some

/-- All roots, one behind the other. -/
def rdfs (cs : List Cl) (old f : Nat) (ms : List Bool) (rs : List Int) : List Bool := rs.foldl (fun m r => dfs cs old f m r.toNat) ms
theorem rdfs_take (cs : List Cl) (old f : Nat) (ms : List Bool) {rs : List Int} {k : Nat} (hk : k < rs.length) : rdfs cs old f ms (rs.take (k + 1)) = dfs cs old f (rdfs cs old f ms (rs.take k)) (rs.getD k default).toNat := by
  have : rs.getD k default = rs[k] := by simp [List.getD, List.getElem?_eq_getElem hk]
  rw [this, List.take_succ_eq_append_getElem hk]
  unfold rdfs
  rw [List.foldl_append]; rfl
theorem rdfs_len (cs : List Cl) (old f : Nat) (rs : List Int) : ∀ ms : List Bool, (rdfs cs old f ms rs).length = ms.length := by
  induction rs with
  | nil => intro ms; rfl
  | cons r rs ih => intro ms; show (rdfs cs old f (dfs cs old f ms r.toNat) rs).length = _; rw [ih, dfs_len]
/-- The parts of some cells. -/
def pdfs (cs : List Cl) (old f : Nat) (ms : List Bool) (l : List Nat) : List Bool := l.foldl (fun m i => prt cs old f m (cs.getD i default)) ms
theorem pdfs_snoc (cs : List Cl) (old f : Nat) (ms : List Bool) (l : List Nat) (x : Nat) : pdfs cs old f ms (l ++ [x]) = prt cs old f (pdfs cs old f ms l) (cs.getD x default) := by
  unfold pdfs; rw [List.foldl_append]; rfl
theorem prt_len (cs : List Cl) (old f : Nat) (ms : List Bool) (c : Cl) : (prt cs old f ms c).length = ms.length := by
  unfold prt
  split
  · rfl
  · rw [dfs_len, dfs_len]
theorem pdfs_len (cs : List Cl) (old f : Nat) (l : List Nat) : ∀ ms : List Bool, (pdfs cs old f ms l).length = ms.length := by
  induction l with
  | nil => intro ms; rfl
  | cons r rs ih => intro ms; show (pdfs cs old f (prt cs old f ms (cs.getD r default)) rs).length = _; rw [ih, prt_len]
/-- The first k are marked. -/
def setTo (ms : List Bool) : Nat → List Bool
  | 0 => ms
  | k + 1 => (setTo ms k).set k true
theorem setTo_len (ms : List Bool) (k : Nat) : (setTo ms k).length = ms.length := by
  induction k with
  | zero => rfl
  | succ k ih => rw [setTo, List.length_set, ih]
/-- What stays, of the cells from old on, and all ahead of it. -/
def liveM (h : Hp) (nm : List Bool) (old : Nat) : List Bool := setTo (pdfs h.cells old h.cells.length (rdfs h.cells old h.cells.length (List.replicate h.cells.length false) h.roots) (idxTo (nm.take old) old)) old
theorem liveM_len (h : Hp) (nm : List Bool) (old : Nat) : (liveM h nm old).length = h.cells.length := by
  unfold liveM; rw [setTo_len, pdfs_len, rdfs_len, List.length_replicate]
theorem bAt_app (ms Z : List Bool) {i : Nat} (h : i < ms.length) : bAt (ms ++ Z) i = bAt ms i := by unfold bAt; simp only [List.getD]; rw [List.getElem?_append_left h]
theorem KeepsOthers.of_onlyP {S : Nat → Prop} {W W' : World} (h : OnlyP S W W') (hS : ∀ j, S j → ∀ ob, W.heap[j]? = some ob → ob.isCells = true) : KeepsOthers W W' :=
  ⟨h.size, fun j ob hj hc => by
    by_cases hs : S j
    · rw [hS j hs ob hj] at hc; cases hc
    · rw [h.block j (Array.getElem?_eq_some_iff.1 hj).1 hs]; exact hj⟩

/-- The slots of a round of live. -/
def lvAct (hb old N bm bh nr : Nat) (o2 : Option Addr) (c2 : Nat) (u7 u19 u20 u21 u22 u23 u24 u25 : Value) (x : Nat) (lf : Bool) (kk a c : Int) (cb : Nat) : Act := ⟨#[.pointer (some ⟨hb, 0, none⟩), .int .i64 (old : Int), .pointer (some ⟨N, 0, none⟩), .pointer (some ⟨N + 1, 0, none⟩), .slice none 0 0, .pointer (some ⟨N + 1 + 1, 0, none⟩), undef, u7, undef, .pointer (some ⟨cb, 0, none⟩), undef, .pointer (some ⟨hb, 0, none⟩), .pointer (some ⟨hb, 0, none⟩), .pointer (some ⟨hb, 0, none⟩), .pointer (some ⟨hb, 2, none⟩), .slice o2 nr c2, .int .i64 (nr : Int), .int .i64 (nr : Int), .bool false, u19, u20, u21, u22, u23, u24, u25, .pointer (some ⟨hb, 0, none⟩), .pointer (some ⟨hb, 0, none⟩), .pointer (some ⟨hb, 0, none⟩), .pointer (some ⟨hb, 0, none⟩), .pointer (some ⟨hb, 0, none⟩), .pointer (some ⟨hb, 3, none⟩), .int .i64 (old : Int), .slice (some ⟨hb, 3, none⟩) old 200, .func (.func 85) #[] #[.pointer (some ⟨bm, 0, none⟩), .pointer (some ⟨bh, 0, none⟩)], .int .i64 (x : Int), .agg #[.bool lf, .int .i64 kk, .int .i64 a, .int .i64 c], undef, undef, undef, undef, undef, undef, undef, undef, undef, undef, undef, undef, undef, undef, undef, undef, undef, undef], []⟩

set_option maxRecDepth 100000 in
set_option maxHeartbeats 4000000 in
theorem live_any (h : Hp) (nm : List Bool) (hok : sndOk h = true) (hnm : nm.length = 200) (old : Nat) (hold : old ≤ h.cells.length) (B hb : Nat) (v1 v2 : Value) (w : World) (hW : WrAt w B hb v1 v2 h nm) :
    Calls Try.prog 57 #[.pointer (some ⟨hb, 0, none⟩), .int .i64 (old : Int)] w fun e w' => (∃ mb, e = .returned (.slice (some ⟨mb, 0, none⟩) h.cells.length 200) ∧ w.heap.size ≤ mb ∧ ∃ Z, RecAt w' mb 66 boolL (liveM h nm old ++ Z)) ∧ Below w.heap.size w w' := by
  obtain ⟨hl1, hl2, _, hcl, hrt⟩ := sndOk_all hok
  obtain ⟨hR, hO1, hO2, _⟩ := hW
  obtain ⟨o1, c1, e1⟩ := own_formX hO1
  obtain ⟨o2, c2, e2⟩ := own_formX hO2
  subst e1 e2
  have hbl := RowAt.lt hR
  have hc2 : w.cell? ⟨hb, 2, none⟩ = some (.slice o2 h.roots.length c2) := by rw [cell_of_row w _ _ _ _ _ hR]; rfl
  have hI1 := OwnR.inR (l := h.cells) hO1 cellL_len
  have hI2 := OwnR.inR (l := h.roots) hO2 intL_len
  have hg1 : ∀ g, (Value.slice o1 h.cells.length c1).ownBlock = some g → g < w.heap.size := fun g e => (hO1.lt g e).2
  have hg2 : ∀ g, (Value.slice o2 h.roots.length c2).ownBlock = some g → g < w.heap.size := fun g e => (hO2.lt g e).2
  obtain ⟨n, hn⟩ : ∃ n, n = h.cells.length := ⟨_, rfl⟩
  have HN := hideT' hn
  obtain ⟨Z, hZ⟩ : ∃ Z, Z = List.replicate (200 - n) false := ⟨_, rfl⟩
  have hZl : Z.length = 200 - n := by rw [hZ, List.length_replicate]
  have hzs : List.replicate 200 false = List.replicate n false ++ Z := by rw [hZ, List.replicate_append_replicate]; congr 1; omega
  rw [← hn] at hl1 hold hcl hI1 hR hg1 ⊢
  obtain ⟨wA, hwA⟩ : ∃ wA, wA = ((w.alloc (.cells #[.pointer (some ⟨hb, 0, none⟩)] 71)).alloc (.cells #[.int .i64 (old : Int)] 3)).alloc (.cells (mkA (List.replicate 200 false)) 66) := ⟨_, rfl⟩
  have aB : Below w.heap.size w wA := by rw [hwA]; exact (((Below.refl _ w).alloc (Nat.le_refl _) _).alloc (by simp) _).alloc (by simp; omega) _
  have aS : wA.heap.size = w.heap.size + 3 := by rw [hwA]; simp
  have a0 : Boxed wA w.heap.size 71 (.pointer (some ⟨hb, 0, none⟩)) := by rw [hwA]; exact ((Boxed.new w _ _).alloc _).alloc _
  have a1 : Boxed wA (w.heap.size + 1) 3 (.int .i64 (old : Int)) := by
    rw [hwA]
    have := Boxed.new (w.alloc (.cells #[.pointer (some ⟨hb, 0, none⟩)] 71)) 3 (.int .i64 (old : Int))
    rw [World.size_alloc] at this
    exact this.alloc _
  have a2 : RecAt wA (w.heap.size + 2) 66 boolL (List.replicate n false ++ Z) := by
    rw [hwA, ← hzs]
    have := RowAt.new ((w.alloc (.cells #[.pointer (some ⟨hb, 0, none⟩)] 71)).alloc (.cells #[.int .i64 (old : Int)] 3)) 66 (mkA (List.replicate 200 false))
    rw [World.size_alloc, World.size_alloc] at this
    exact this
  -- what every later world knows
  have HF : Hid (∀ W', OnlyP (· = w.heap.size + 2) wA W' → (W'.cell? ⟨w.heap.size, 0, none⟩ = some (.pointer (some ⟨hb, 0, none⟩)) ∧ W'.cell? ⟨w.heap.size + 1, 0, none⟩ = some (.int .i64 (old : Int))) ∧ RowAt W' hb 76 (wrL h.old (.slice o1 n c1) (.slice o2 h.roots.length c2) nm).toArray ∧ (InR W' (.slice o1 n c1) cellL 4 h.cells ∧ InR W' (.slice o2 h.roots.length c2) intL 1 h.roots)) := by
    intro W' hP
    have b0 := hP.row a0 (by omega)
    have b1 := hP.row a1 (by omega)
    have b2 := hP.row (hR.below aB hbl) (by omega)
    refine ⟨⟨by rw [cell_of_row _ _ _ _ _ _ b0]; rfl, by rw [cell_of_row _ _ _ _ _ _ b1]; rfl⟩, b2, hP.inR (hI1.below aB) (fun g e => by have := hg1 g e; omega), hP.inR (hI2.below aB) (fun g e => by have := hg2 g e; omega)⟩
  have HMK : Hid (∀ f, MarkOk h.cells n Z hb (w.heap.size + 2) old c1 o1 f) := mark_all h.cells n hn hl1 hcl Z hZl hb (w.heap.size + 2) old c1 o1 (by omega) (fun g e => by have := hg1 g e; omega)
  have HMP : Hid (∀ (ms : List Bool) (c : Cl) (W : World), ms.length = n → sndC n c = true → WRd W hb n c1 o1 h.cells → RecAt W (w.heap.size + 2) 66 boolL (ms ++ Z) → Calls Try.prog 80 #[.pointer (some ⟨hb, 0, none⟩), .pointer (some ⟨w.heap.size + 2, 0, none⟩), .agg (cellL c).toArray, .int .i64 (old : Int)] W fun e W' => e = .returned (.tuple #[]) ∧ RecAt W' (w.heap.size + 2) 66 boolL (prt h.cells old n ms c ++ Z) ∧ OnlyP (· = w.heap.size + 2) W W') := fun ms c W hl hc hWr hRr =>
    markParts_any h.cells n hn hcl Z hb (w.heap.size + 2) old c1 o1 (by omega) (fun g e => by have := hg1 g e; omega) n (mark_all h.cells n hn hl1 hcl Z hZl hb (w.heap.size + 2) old c1 o1 (by omega) (fun g e => by have := hg1 g e; omega) n) ms c W hl hc (by have := fal_le ms; omega) hWr hRr
  have HCL := hideT' hcl
  have HRT := hideT' hrt
  have HZL := hideT' hZl
  have hzm := zero_cm.1
  obtain ⟨NZ, hNZ⟩ : ∃ N, N = mkA (List.replicate 200 false) := ⟨_, rfl⟩
  rw [← hNZ] at hzm hwA
  have HWA := hideT' hwA
  have HA := hideT' (And.intro a2 aB)
  have HAS := hideT' aS
  have hc3 : World.cell? (((w.alloc (.cells #[.pointer (some ⟨hb, 0, none⟩)] 71)).alloc (.cells #[.int .i64 (old : Int)] 3)).alloc (.cells NZ 66)) ⟨hb, 2, none⟩ = some (.slice o2 h.roots.length c2) := by
    rw [← HWA.out, cell_of_row _ _ _ _ _ _ (HF.out wA (OnlyP.refl _ _)).2.1]; rfl
  clear hR hO1 hO2 hI1 hI2 hg1 hg2 hZ hzs hZl hrt hcl aB a0 a1 a2 hwA hNZ hn aS
  refine (callsIn_wide (n := 3)).1 ?_
  refine callsIn_of_wp_marks Try.func57 rfl trivial ?_ rfl
  simp only [Try.ntmps57, List.size_toArray, List.length_cons, List.length_nil, Nat.reduceAdd, Nat.reduceSub, Array.replicate_succ, Array.replicate_zero, List.push_toArray, List.append_toArray, List.nil_append, List.cons_append]
  gi_wp2
  rw [← HWA.out]
  clear hc2 hc3
  gi_loopw [17] (fun x wr => ∃ j : Nat, x = .int .i64 (j : Int) ∧ j ≤ h.roots.length ∧ RecAt wr (w.heap.size + 2) 66 boolL (rdfs h.cells old n (List.replicate n false) (h.roots.take j) ++ Z) ∧ OnlyP (· = w.heap.size + 2) wA wr) (fun x wr => h.roots.length + 1 - upN x)
  case atStart => exact ⟨0, by go_num, by omega, HA.out.1, OnlyP.refl _ _⟩
  case round =>
    obtain ⟨j, rfl, hj, hD, hP⟩ := hrel
    obtain ⟨⟨f0, f1⟩, fr, fi1, fi2⟩ := HF.out wr hP
    by_cases hltj : (j : Int) < (h.roots.length : Int)
    · have hj' : j < h.roots.length := by omega
      obtain ⟨r, hr, hrl⟩ := HRT.out j hj'
      obtain ⟨o', cap', ee, hin⟩ := id fi2
      cases ee
      obtain ⟨g2, rfl, hgl, hcl2⟩ := hin (by intro e; rw [e] at hj'; simp at hj')
      have hcell : wr.cell? ⟨g2, j, none⟩ = some (.int .i64 (r : Int)) := by
        have := hcl2 j 0 (.int .i64 (h.roots.getD j default)) hj' rfl
        rwa [Nat.mul_one, Nat.add_zero, hr] at this
      have hrn : r < n := by rw [HN.out]; exact hrl
      have hlen : (rdfs h.cells old n (List.replicate n false) (h.roots.take j)).length = n := by rw [rdfs_len, List.length_replicate]
      have HC := hideT' (HMK.out n _ r wr hlen hrn (by have := fal_le (rdfs h.cells old n (List.replicate n false) (h.roots.take j)); omega) ⟨by rw [cell_of_row _ _ _ _ _ _ fr]; rfl, fi1⟩ hD)
      have HTK : Hid (rdfs h.cells old n (List.replicate n false) (h.roots.take (j + 1)) = dfs h.cells old n (rdfs h.cells old n (List.replicate n false) (h.roots.take j)) r) := by unfold Hid; rw [rdfs_take _ _ _ _ hj', hr]; rfl
      have HP := hideT' hP
      clear hD hP fr fi1 fi2 hin hcl2 hr hrl hlen
      gi_wp2
      refine ⟨trivial, ?_⟩
      gi_at_call 79
      refine (callsIn_wide.2 HC.out).mono ?_
      rintro e W2 ⟨rfl, hR2, hP2⟩
      have HO := hideT' (And.intro hR2 (HP.out.trans hP2))
      clear hR2 hP2
      gi_wp2
      go_roundw
      case rel => exact ⟨j + 1, by go_num, by omega, by rw [HTK.out]; exact HO.out.1, HO.out.2⟩
      case measure => simp [upN]; omega
    · have hjr : j = h.roots.length := by omega
      subst hjr
      rw [List.take_length] at hD
      have HD := hideT' hD
      have HP := hideT' hP
      clear hD hP fr fi1 fi2
      gi_wp2
      have hS : (World.cell? wr.drew ⟨w.heap.size, 0, none⟩ = some (.pointer (some ⟨hb, 0, none⟩)) ∧ World.cell? wr.drew ⟨w.heap.size + 1, 0, none⟩ = some (.int .i64 (old : Int))) := ⟨f0, f1⟩
      have hol : (old : Int) ≤ 200 := by omega
      refine held_wide (fun w' => (World.cell? w' ⟨w.heap.size, 0, none⟩ = some (.pointer (some ⟨hb, 0, none⟩)) ∧ World.cell? w' ⟨w.heap.size + 1, 0, none⟩ = some (.int .i64 (old : Int)))) (by kernel_rfl) ?_
      refine held_valS 0 (some 26) rfl rfl (by kernel_rfl) (by kernel_rfl) (by kernel_rfl) noPanic_put rfl (.pointer (some ⟨hb, 0, none⟩)) (fun w' h => run_cell1 (.tmp 2) 71 rfl ⟨w.heap.size, 0, none⟩ rfl _ Try.underlying71 rfl h.1) hS ?_
      simp only [Act.put, List.setIfInBounds_toArray, List.set_cons_zero, List.set_cons_succ]
      refine held_val 1 (some 27) rfl rfl (by kernel_rfl) (by kernel_rfl) (by kernel_rfl) noPanic_put rfl (.pointer (some ⟨hb, 0, none⟩)) (fun _ => by go_simp) hS ?_
      simp only [Act.put, List.setIfInBounds_toArray, List.set_cons_zero, List.set_cons_succ]
      refine held_val 2 (some 28) rfl rfl (by kernel_rfl) (by kernel_rfl) (by kernel_rfl) noPanic_put rfl (.pointer (some ⟨hb, 0, none⟩)) (fun _ => by go_simp) hS ?_
      simp only [Act.put, List.setIfInBounds_toArray, List.set_cons_zero, List.set_cons_succ]
      refine held_valS 3 (some 29) rfl rfl (by kernel_rfl) (by kernel_rfl) (by kernel_rfl) noPanic_put rfl (.pointer (some ⟨hb, 0, none⟩)) (fun w' h => run_cell1 (.tmp 2) 71 rfl ⟨w.heap.size, 0, none⟩ rfl _ Try.underlying71 rfl h.1) hS ?_
      simp only [Act.put, List.setIfInBounds_toArray, List.set_cons_zero, List.set_cons_succ]
      refine held_val 4 (some 30) rfl rfl (by kernel_rfl) (by kernel_rfl) (by kernel_rfl) noPanic_put rfl (.pointer (some ⟨hb, 0, none⟩)) (fun _ => by go_simp) hS ?_
      simp only [Act.put, List.setIfInBounds_toArray, List.set_cons_zero, List.set_cons_succ]
      refine held_val 5 (some 31) rfl rfl (by kernel_rfl) (by kernel_rfl) (by kernel_rfl) noPanic_put rfl (.pointer (some ⟨hb, 3, none⟩)) (fun _ => by go_simp) hS ?_
      simp only [Act.put, List.setIfInBounds_toArray, List.set_cons_zero, List.set_cons_succ]
      refine held_valS 6 (some 32) rfl rfl (by kernel_rfl) (by kernel_rfl) (by kernel_rfl) noPanic_put rfl (.int .i64 (old : Int)) (fun w' h => run_cell1 (.tmp 3) 3 rfl ⟨w.heap.size + 1, 0, none⟩ rfl _ Try.underlying3 rfl h.2) hS ?_
      simp only [Act.put, List.setIfInBounds_toArray, List.set_cons_zero, List.set_cons_succ]
      refine held_val 7 (some 33) rfl rfl (by kernel_rfl) (by kernel_rfl) (by kernel_rfl) noPanic_put rfl (.slice (some ⟨hb, 3, none⟩) old 200) (fun _ => by go_simp) hS ?_
      simp only [Act.put, List.setIfInBounds_toArray, List.set_cons_zero, List.set_cons_succ]
      refine held_call 8 (some 34) (by kernel_rfl) rfl rfl rfl 78 #[.pointer (some ⟨hb, 0, none⟩), .slice (some ⟨hb, 3, none⟩) old 200] (by go_simp) _ (only_any hb hb 3 old 200 wr.drew) ?_
      rintro e w3 ⟨rfl, hw3⟩
      have hsz : wA.heap.size ≤ wr.heap.size := HP.out.size
      have has := HAS.out
      have hdz : wr.drew.heap.size = wr.heap.size := rfl
      have hs3 : w3.heap.size = wr.heap.size + 2 := by rw [hw3]; simp
      have hP3 : OnlyP (· = w.heap.size + 2) wA w3 := by
        rw [hw3]
        exact ((OnlyP.trans HP.out (⟨rfl, rfl, rfl, Nat.le_refl _, fun _ _ _ => rfl⟩ : OnlyP (· = w.heap.size + 2) wr wr.drew)).grown (grown_alloc _ _ none) (fun r e => by cases e)).grown (grown_alloc _ _ none) (fun r e => by cases e)
      obtain ⟨⟨f03, f13⟩, fr3, fi13, fi23⟩ := HF.out w3 hP3
      have hD3 : RecAt w3 (w.heap.size + 2) 66 boolL (pdfs h.cells old n (rdfs h.cells old n (List.replicate n false) h.roots) [] ++ Z) := by
        rw [hw3]; exact RowAt.old (RowAt.old (show RecAt wr.drew (w.heap.size + 2) 66 boolL _ from HD.out) _) _
      have hbm : Boxed w3 (wr.heap.size + 1) 69 (.slice (some ⟨hb, 3, none⟩) old 200) := by
        rw [hw3]
        have := Boxed.new (wr.drew.alloc (.cells #[.pointer (some ⟨hb, 0, none⟩)] 89)) 69 (.slice (some ⟨hb, 3, none⟩) old 200)
        rwa [World.size_alloc] at this
      have hbh : Boxed w3 wr.heap.size 89 (.pointer (some ⟨hb, 0, none⟩)) := by rw [hw3]; exact (Boxed.new wr.drew _ _).alloc _
      refine ⟨_, rfl, ⟨f03, f13⟩, ?_⟩
      simp only [Act.put, List.setIfInBounds_toArray, List.set_cons_zero, List.set_cons_succ]
      refine wpAnyH_done (by kernel_rfl) ?_ _
      refine NoPanic.normal ?_
      have hml : (nm.take old).length = old := by rw [List.length_take, hnm]; omega
      have hseq := only_seq 2 (by omega) h.cells (nm.take old) old n (by omega) hml hold (wr.heap.size + 1) wr.heap.size hb hb 3 200 c1 o1
      have HSEQ := hideT' hseq
      have HBB := hideT' (And.intro hbm hbh)
      have HI0 : Hid (RecAt w3 (w.heap.size + 2) 66 boolL (pdfs h.cells old n (rdfs h.cells old n (List.replicate n false) h.roots) [] ++ Z) ∧ OnlyP (· = w.heap.size + 2) w3 w3 ∧ OnlyP (· = w.heap.size + 2) wA w3) := ⟨hD3, OnlyP.refl _ _, hP3⟩
      have HNEED : Hid (∀ pre W, RecAt W (w.heap.size + 2) 66 boolL (pdfs h.cells old n (rdfs h.cells old n (List.replicate n false) h.roots) pre ++ Z) ∧ OnlyP (· = w.heap.size + 2) w3 W ∧ OnlyP (· = w.heap.size + 2) wA W → NeedO (wr.heap.size + 1) wr.heap.size hb hb 3 200 o1 old n c1 h.cells (nm.take old) pre W) := by
        rintro pre W ⟨_, hp3, hpA⟩
        obtain ⟨_, gr, gi1, _⟩ := HF.out W hpA
        refine ⟨⟨(Boxed.cell (hp3.row HBB.out.1 (by omega))), (Boxed.cell (hp3.row HBB.out.2 (by omega))), by rw [cell_of_row _ _ _ _ _ _ gr]; rfl⟩, ?_, fun i hi _ _ => ?_⟩
        · intro i hi
          rw [hml] at hi
          have hb1 : W.cell? ⟨hb, 3 + i, none⟩ = (wrL h.old (.slice o1 n c1) (.slice o2 h.roots.length c2) nm)[3 + i]? := by rw [cell_of_row W _ _ _ _ _ gr, List.getElem?_toArray]
          have hb2 : (wrL h.old (.slice o1 n c1) (.slice o2 h.roots.length c2) nm)[3 + i]? = (nm.flatMap boolL)[i]? := by
            rw [show 3 + i = i + 1 + 1 + 1 by omega]; rfl
          have hb3 := rec_get boolL 1 boolL_len nm i 0 (by omega) (by decide)
          rw [Nat.mul_one, Nat.add_zero] at hb3
          rw [hb1, hb2, hb3]
          have : bAt (nm.take old) i = nm.getD i default := by unfold bAt; simp only [List.getD]; rw [List.getElem?_take_of_lt hi]; rfl
          rw [this]; rfl
        · obtain ⟨o', cap', e, hin⟩ := gi1
          cases e
          obtain ⟨g, rfl, _, hc⟩ := hin (fun e => absurd (show h.cells.length = 0 by rw [e]; rfl) (by have := HN.out; omega))
          exact ⟨g, rfl, fun j u hu => hc i j u (by have := HN.out; omega) hu⟩
      clear hseq hbm hbh hD3 hP3 hw3 fr3 fi13 fi23 f03 f13 f0 f1 hS
      gi_wp2
      refine range_any (n := 3) (gf := 85) (lb := #[.pointer (some ⟨wr.heap.size + 1, 0, none⟩), .pointer (some ⟨wr.heap.size, 0, none⟩)]) (by rfl) (enters_of Try.func85 (by kernel_rfl) rfl) (encC h.cells) (fun x => rfl) _ _ _ HSEQ.out
        (fun pre W => RecAt W (w.heap.size + 2) 66 boolL (pdfs h.cells old n (rdfs h.cells old n (List.replicate n false) h.roots) pre ++ Z) ∧ OnlyP (· = w.heap.size + 2) w3 W ∧ OnlyP (· = w.heap.size + 2) wA W) (fun s A B row hh hg hr => ⟨row_turn hh.1 hg hr, hh.2.1.turn hg hr (Nat.le_refl _), hh.2.2.turn hg hr (by omega)⟩) (fun s A hh => HNEED.out s A hh) HI0.out
        (fun pre x c W => ∃ lf kk a cc cb, (lf, kk, a, cc) = h.cells.getD x default ∧ c = lvAct hb old w.heap.size (wr.heap.size + 1) wr.heap.size h.roots.length o2 c2 u7 u19 u20 u21 u22 u23 u24 u25 x lf kk a cc cb ∧ RowAt W cb 59 #[.bool lf, .int .i64 kk, .int .i64 a, .int .i64 cc] ∧ w3.heap.size ≤ cb ∧ RecAt W (w.heap.size + 2) 66 boolL (pdfs h.cells old n (rdfs h.cells old n (List.replicate n false) h.roots) pre ++ Z) ∧ OnlyP (· = w.heap.size + 2) w3 W ∧ OnlyP (· = w.heap.size + 2) wA W) ?ax ?assign ?body ?done
      case ax =>
        rintro s x c A B row ⟨lf, kk, a, cc, cb, h1, h2, h3, h4, h5⟩ hg hr
        exact ⟨lf, kk, a, cc, cb, h1, h2, row_turn h3 hg hr, h4, row_turn h5.1 hg hr, h5.2.1.turn hg hr (Nat.le_refl _), h5.2.2.turn hg hr (by omega)⟩
      case assign =>
        intro l pre x W K hNx hI hK
        obtain ⟨d, hd⟩ : ∃ d, d = h.cells.getD x default := ⟨_, rfl⟩
        obtain ⟨lf, kk, a, cc⟩ := d
        have hzc := zero_cell.1
        have HDD := hideT' hd
        have HI := hideT' hI
        have HK := hideT' hK
        rw [encC_eq hd]
        clear hd hI hK hNx
        gi_wp2
        exact HK.out _ _ ⟨lf, kk, a, cc, W.heap.size, HDD.out, rfl, RowAt.new _ _ _, HI.out.2.1.size, RowAt.old HI.out.1 _, HI.out.2.1.grown (grown_alloc _ _ none) (fun r e => by cases e), HI.out.2.2.grown (grown_alloc _ _ none) (fun r e => by cases e)⟩ (KeepsOthers.alloc W _)
      case body =>
        rintro l pre x c W hNx ⟨lf, kk, a, cc, cb, hd, rfl, hR7, hcb, hI⟩
        unfold lvAct
        have hxn : x < n := by have := hNx.1; omega
        have hsn : sndC n (lf, kk, a, cc) = true := by rw [hd]; exact getD_all HCL.out (by have := HN.out; omega)
        obtain ⟨⟨f0, f1⟩, fr, fi1, _⟩ := HF.out W hI.2.2
        have hlen : (pdfs h.cells old n (rdfs h.cells old n (List.replicate n false) h.roots) pre).length = n := by rw [pdfs_len, rdfs_len, List.length_replicate]
        have HC := hideT' (HMP.out _ (lf, kk, a, cc) W hlen hsn ⟨by rw [cell_of_row _ _ _ _ _ _ fr]; rfl, fi1⟩ hI.1)
        have HTK : Hid (pdfs h.cells old n (rdfs h.cells old n (List.replicate n false) h.roots) (pre ++ [x]) = prt h.cells old n (pdfs h.cells old n (rdfs h.cells old n (List.replicate n false) h.roots) pre) (lf, kk, a, cc)) := by unfold Hid; rw [pdfs_snoc, ← hd]
        have c0 : W.cell? ⟨cb, 0, none⟩ = some (.bool lf) := by rw [cell_of_row W _ _ _ _ _ hR7]; rfl
        have c1' : W.cell? ⟨cb, 1, none⟩ = some (.int .i64 kk) := by rw [cell_of_row W _ _ _ _ _ hR7]; rfl
        have c2' : W.cell? ⟨cb, 2, none⟩ = some (.int .i64 a) := by rw [cell_of_row W _ _ _ _ _ hR7]; rfl
        have c3' : W.cell? ⟨cb, 3, none⟩ = some (.int .i64 cc) := by rw [cell_of_row W _ _ _ _ _ hR7]; rfl
        have HI := hideT' hI
        clear hNx hd hR7 hI fr fi1 hlen hsn
        gi_wp2
        refine ⟨trivial, ?_⟩
        gi_at_call 80
        refine (CallsIn.inRound l (callsIn_wide.2 HC.out)).mono ?_
        rintro e W2 ⟨rfl, hR2, hP2⟩
        have HO := hideT' (And.intro hR2 hP2)
        clear hR2 hP2
        gi_wp2
        refine ⟨KeepsOthers.of_onlyP HO.out.2 (fun j hj ob e => by subst hj; rw [show W.heap[w.heap.size + 2]? = _ from HI.out.1] at e; cases e; rfl), by rw [HTK.out]; exact HO.out.1, HI.out.2.1.trans HO.out.2, HI.out.2.2.trans HO.out.2⟩
      case done =>
        intro D xs W hD hSx hI hK
        obtain ⟨⟨f0, f1⟩, _⟩ := HF.out W hI.2.2
        obtain ⟨M, hMd⟩ : ∃ M, M = pdfs h.cells old n (rdfs h.cells old n (List.replicate n false) h.roots) xs := ⟨_, rfl⟩
        have hMl : M.length = n := by rw [hMd, pdfs_len, rdfs_len, List.length_replicate]
        rw [← hMd] at hI
        have HI := hideT' (And.intro hI.1 (And.intro hI.2.2 hK))
        have HMD : Hid (liveM h nm old = setTo M old) := by unfold Hid liveM; rw [hMd, hSx, ← HN.out]
        have hD' : w3.heap.size ≤ D := hD
        clear hI hK hSx hMd
        gi_wp2
        clear f0 f1
        gi_loopw [42] (fun x wr2 => ∃ j : Nat, x = .int .i64 (j : Int) ∧ j ≤ old ∧ RecAt wr2 (w.heap.size + 2) 66 boolL (setTo M j ++ Z) ∧ OnlyP (· = w.heap.size + 2) wA wr2 ∧ wr2.heap[D]? = some (.deferred (some []))) (fun x wr2 => old + 1 - upN x)
        case atStart => exact ⟨0, by go_num, by omega, HI.out.1, HI.out.2.1, HI.out.2.2⟩
        case round =>
          obtain ⟨j, rfl, hj, hD4, hP4, hK4⟩ := hrel
          have hlen : (setTo M j).length = n := by rw [setTo_len, hMl]
          obtain ⟨⟨f0, f1⟩, fr, _⟩ := HF.out wr hP4
          have g1 : wr.cell? ⟨hb, 1, none⟩ = some (.slice o1 n c1) := by rw [cell_of_row _ _ _ _ _ _ fr]; rfl
          by_cases hltj : (j : Int) < (old : Int)
          · have hj200 : j < 200 := by omega
            have hcc := cm_cell hD4 (i := j) (by rw [List.length_append, hlen]; have := HZL.out; omega)
            have hff := cm_froz hD4 j
            have hset : (setTo M j ++ Z).set j true = setTo M (j + 1) ++ Z := by rw [setTo]; exact List.set_append_left _ _ (by omega)
            have h5 := cm_set hD4 j true
            rw [hset] at h5
            have hgs := grown_set wr (w.heap.size + 2) j (.bool true)
            have hP5 : OnlyP (· = w.heap.size + 2) wA (wr.setCell ⟨w.heap.size + 2, j, none⟩ (.bool true)) := hP4.grown hgs (fun r e => .inr (by injection e with e; exact e.symm))
            have hK5 : (wr.setCell ⟨w.heap.size + 2, j, none⟩ (.bool true)).heap[D]? = some (.deferred (some [])) := by
              rw [hgs.block D (Array.getElem?_eq_some_iff.1 hK4).1 (fun e => ?_)]
              · exact hK4
              · injection e with e
                subst e
                rw [show wr.heap[w.heap.size + 2]? = _ from hD4] at hK4; cases hK4
            have H5 := hideT' (And.intro h5 (And.intro hP5 hK5))
            clear hD4 hP4 hK4 hset h5 hgs hP5 hK5 fr hlen
            gi_wp2
            go_roundw
            case rel => exact ⟨j + 1, by go_num, by omega, H5.out⟩
            case measure => simp [upN]; omega
          · have hjo : old = j := by omega
            subst hjo
            have hn200 : (n : Int) ≤ 200 := by omega
            have H4 := hideT' (And.intro hD4 (And.intro hP4 hK4))
            clear hD4 hP4 hK4 fr hlen
            gi_wp2
            have hB4 : Below w.heap.size w wr := H4.out.2.1.belowB HA.out.2 (by have := HAS.out; omega) (fun k e => by omega)
            have hfin : (∃ mb, Ending.returned (.slice (some ⟨w.heap.size + 2, 0, none⟩) n 200) = .returned (.slice (some ⟨mb, 0, none⟩) n 200) ∧ w.heap.size ≤ mb ∧ ∃ Z, RecAt (wr.putObj D (.deferred none)) mb 66 boolL (liveM h nm old ++ Z)) ∧ Below w.heap.size w (wr.putObj D (.deferred none)) := by
              refine ⟨⟨w.heap.size + 2, rfl, by omega, Z, ?_⟩, ?_⟩
              · rw [HMD.out]; exact row_put H4.out.1 H4.out.2.2 rfl
              · exact below_put hB4 (by have := HAS.out; have := HP.out.size; omega) hB4.size
            exact leave_marks (v := .slice (some ⟨w.heap.size + 2, 0, none⟩) n 200) H4.out.2.2 (by simp [results, Try.results57, go_sem]) hfin
end Go.Proofs.Ytoaancgmahdbnaa
