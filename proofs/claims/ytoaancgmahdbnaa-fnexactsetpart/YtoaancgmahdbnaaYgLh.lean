/-
  What the model's marking does: the same.
-/
import Derived.Test.YtoaancgmahdbnaaYgDfs
namespace Go.Proofs.Ytoaancgmahdbnaa
open Go.RowKit Go.Shelf BL
set_option linter.unusedVariables false

section
variable (m : Yg) (n : Nat) (hn : n = m.h.cells.length) (h200 : n ≤ 200) (hs : m.h.cells.all (sndC n) = true) (mb od old : Nat) (young : Bool) (hod : m.h.old = (od : Int)) (hold : old = if young then od else 0) (v2 v3 : Value) (c1 : Nat) (o1 : Option Addr) (hg : ∀ g, (Value.slice o1 n c1).ownBlock = some g → g ≠ mb)
/-- What lhMark does with fuel f. -/
def LhOk (f : Nat) : Prop := ∀ (ms : List Bool) (i : Nat) (W : World), ms.length = n → i < n → fal ms ≤ f → InR W (.slice o1 n c1) cellL 4 m.h.cells → RecAt W mb 4 boolL ms →
  Calls Try.prog 77 #[.agg #[.int .i64 (od : Int), .slice o1 n c1, v2, v3], .int .i64 (i : Int), .slice (some ⟨mb, 0, none⟩) n n, .bool young] W fun e W' => e = .returned (.tuple #[]) ∧ RecAt W' mb 4 boolL (dfs m.h.cells old f ms i) ∧ OnlyP (· = mb) W W'

set_option maxRecDepth 100000 in
set_option maxHeartbeats 4000000 in
include hn h200 hs hg hold in
theorem lhMark_all (o2 o3 : Option Addr) (n2 n3 c2 c3 : Nat) (e2 : v2 = .slice o2 n2 c2) (e3 : v3 = .slice o3 n3 c3) : ∀ f, LhOk m n mb od old young v2 v3 c1 o1 f := by
  subst e2 e3
  intro f
  induction f with
  | zero =>
    intro ms i W hl hi hf hW hR
    have hb1 := fal_zero ms i (by omega) (by omega)
    have hR1 := RowAt.old hR (.cells #[.int .i64 (od : Int), .slice o1 n c1, .slice o2 n2 c2, .slice o3 n3 c3] 30)
    have hcc := bool_cell (ms := ms) hR1 (i := i) (by omega)
    rw [hb1] at hcc
    have HR := hideT' hR1
    have hi2 : (i : Int) < (n : Int) := by omega
    have HB : Hid (OnlyP (· = mb) W (W.alloc (.cells #[.int .i64 (od : Int), .slice o1 n c1, .slice o2 n2 c2, .slice o3 n3 c3] 30))) := OnlyP.of_below ((Below.refl _ _).alloc (Nat.le_refl _) _)
    clear hW hR hold hR1 hb1
    clear hn
    go_enter Try.func77, Try.ntmps77
    go_wp2
    refine bodyPost_ret (v := .tuple #[]) (by simp [results, Try.results77, go_sem]) rfl ?_
    exact ⟨rfl, HR.out, HB.out⟩
  | succ f ih =>
    intro ms i W hl hi hf hW hR
    have hmb := RecAt.lt hR
    obtain ⟨g, hgo⟩ : ∃ g, o1 = some ⟨g, 0, none⟩ := by
      obtain ⟨o', cap', e', hin⟩ := id hW
      cases e'
      obtain ⟨g, hgo, _⟩ := hin (fun e => absurd (show m.h.cells.length = 0 by rw [e]; rfl) (by omega))
      exact ⟨g, hgo⟩
    subst hgo
    have hP1 : OnlyP (· = mb) W (W.alloc (.cells #[.int .i64 (od : Int), .slice (some ⟨g, 0, none⟩) n c1, .slice o2 n2 c2, .slice o3 n3 c3] 30)) := OnlyP.of_below ((Below.refl _ _).alloc (Nat.le_refl _) _)
    have hX1 : RowAt (W.alloc (.cells #[.int .i64 (od : Int), .slice (some ⟨g, 0, none⟩) n c1, .slice o2 n2 c2, .slice o3 n3 c3] 30)) W.heap.size 30 #[.int .i64 (od : Int), .slice (some ⟨g, 0, none⟩) n c1, .slice o2 n2 c2, .slice o3 n3 c3] := RowAt.new _ _ _
    have hR1 : RecAt (W.alloc (.cells #[.int .i64 (od : Int), .slice (some ⟨g, 0, none⟩) n c1, .slice o2 n2 c2, .slice o3 n3 c3] 30)) mb 4 boolL ms := RowAt.old hR _
    have hW1 := hP1.inR hW hg
    have hcc := bool_cell hR1 (i := i) (by omega)
    have hin : (i : Int) < (n : Int) := by omega
    have HDS := hideT' (dfs_succ m.h.cells old f ms i)
    obtain ⟨q, hq⟩ : ∃ q, q = bAt ms i := ⟨_, rfl⟩
    rw [← hq] at hcc HDS
    cases q with
    | true =>
      have HY : Hid (dfs m.h.cells old (f + 1) ms i = ms) := by unfold Hid; rw [HDS.out]; rfl
      have HO := hideT' (And.intro hR1 hP1)
      clear hW hR hq hP1 hX1 hR1 hW1 hold ih
      clear hn
      go_enter Try.func77, Try.ntmps77
      go_wp2
      refine bodyPost_ret (v := .tuple #[]) (by simp [results, Try.results77, go_sem]) rfl ?_
      exact ⟨rfl, by rw [HY.out]; exact HO.out.1, HO.out.2⟩
    | false =>
      have hff := rec1_froz hR1 i
      have hfs := fal_set ms i (by omega) hq.symm
      have hgs := grown_set W mb i (.bool true)
      have hszw : (W.setCell ⟨mb, i, none⟩ (.bool true)).heap.size = W.heap.size := by simp
      have hR2 : RecAt ((W.setCell ⟨mb, i, none⟩ (.bool true)).alloc (.cells #[.int .i64 (od : Int), .slice (some ⟨g, 0, none⟩) n c1, .slice o2 n2 c2, .slice o3 n3 c3] 30)) mb 4 boolL (ms.set i true) := RowAt.old (rec1_set hR i true) _
      have hP2 : OnlyP (· = mb) W ((W.setCell ⟨mb, i, none⟩ (.bool true)).alloc (.cells #[.int .i64 (od : Int), .slice (some ⟨g, 0, none⟩) n c1, .slice o2 n2 c2, .slice o3 n3 c3] 30)) := ((OnlyP.refl _ _).grown hgs (fun r e => .inr (by injection e with e; exact e.symm))).grown (grown_alloc _ _ none) (fun r e => by cases e)
      have hX2 : RowAt ((W.setCell ⟨mb, i, none⟩ (.bool true)).alloc (.cells #[.int .i64 (od : Int), .slice (some ⟨g, 0, none⟩) n c1, .slice o2 n2 c2, .slice o3 n3 c3] 30)) W.heap.size 30 #[.int .i64 (od : Int), .slice (some ⟨g, 0, none⟩) n c1, .slice o2 n2 c2, .slice o3 n3 c3] := by
        have h := RowAt.new (W.setCell ⟨mb, i, none⟩ (.bool true)) 30 #[.int .i64 (od : Int), .slice (some ⟨g, 0, none⟩) n c1, .slice o2 n2 c2, .slice o3 n3 c3]
        rwa [hszw] at h
      have hW2 : InR ((W.setCell ⟨mb, i, none⟩ (.bool true)).alloc (.cells #[.int .i64 (od : Int), .slice (some ⟨g, 0, none⟩) n c1, .slice o2 n2 c2, .slice o3 n3 c3] 30)) (.slice (some ⟨g, 0, none⟩) n c1) cellL 4 m.h.cells := hP2.inR hW hg
      obtain ⟨d, hd⟩ : ∃ d, d = m.h.cells.getD i default := ⟨_, rfl⟩
      have hsn : sndC n d = true := by rw [hd]; exact getD_all hs (by omega)
      have HDS2 : Hid (dfs m.h.cells old (f + 1) ms i = if i < old then ms.set i true else prt m.h.cells old f (ms.set i true) d) := by unfold Hid; rw [HDS.out, if_neg (by simp), ← hd]
      obtain ⟨lf, kk, a, cc⟩ := d
      obtain ⟨g', eg, p0, p1, p2, p3⟩ := InR.cells4 hW2 (by omega) hd
      cases eg
      have b1 : World.cell? ((W.setCell ⟨mb, i, none⟩ (.bool true)).alloc (.cells #[.int .i64 (od : Int), .slice (some ⟨g, 0, none⟩) n c1, .slice o2 n2 c2, .slice o3 n3 c3] 30)) ⟨W.heap.size, 1, none⟩ = some (.slice (some ⟨g, 0, none⟩) n c1) := by rw [cell_of_row _ _ _ _ _ _ hX2]; rfl
      have hzc := zero_cell.1
      have hP3 : OnlyP (· = mb) W (((W.setCell ⟨mb, i, none⟩ (.bool true)).alloc (.cells #[.int .i64 (od : Int), .slice (some ⟨g, 0, none⟩) n c1, .slice o2 n2 c2, .slice o3 n3 c3] 30)).alloc (.cells #[.bool lf, .int .i64 kk, .int .i64 a, .int .i64 cc] 59)) := hP2.grown (grown_alloc _ _ none) (fun r e => by cases e)
      have hX3 : RowAt (((W.setCell ⟨mb, i, none⟩ (.bool true)).alloc (.cells #[.int .i64 (od : Int), .slice (some ⟨g, 0, none⟩) n c1, .slice o2 n2 c2, .slice o3 n3 c3] 30)).alloc (.cells #[.bool lf, .int .i64 kk, .int .i64 a, .int .i64 cc] 59)) W.heap.size 30 #[.int .i64 (od : Int), .slice (some ⟨g, 0, none⟩) n c1, .slice o2 n2 c2, .slice o3 n3 c3] := RowAt.old hX2 _
      have hR3 : RecAt (((W.setCell ⟨mb, i, none⟩ (.bool true)).alloc (.cells #[.int .i64 (od : Int), .slice (some ⟨g, 0, none⟩) n c1, .slice o2 n2 c2, .slice o3 n3 c3] 30)).alloc (.cells #[.bool lf, .int .i64 kk, .int .i64 a, .int .i64 cc] 59)) mb 4 boolL (ms.set i true) := RowAt.old hR2 _
      have hW3 : InR (((W.setCell ⟨mb, i, none⟩ (.bool true)).alloc (.cells #[.int .i64 (od : Int), .slice (some ⟨g, 0, none⟩) n c1, .slice o2 n2 c2, .slice o3 n3 c3] 30)).alloc (.cells #[.bool lf, .int .i64 kk, .int .i64 a, .int .i64 cc] 59)) (.slice (some ⟨g, 0, none⟩) n c1) cellL 4 m.h.cells := hP3.inR hW hg
      have q0 : World.cell? (((W.setCell ⟨mb, i, none⟩ (.bool true)).alloc (.cells #[.int .i64 (od : Int), .slice (some ⟨g, 0, none⟩) n c1, .slice o2 n2 c2, .slice o3 n3 c3] 30)).alloc (.cells #[.bool lf, .int .i64 kk, .int .i64 a, .int .i64 cc] 59)) ⟨W.heap.size, 0, none⟩ = some (.int .i64 (od : Int)) := by rw [cell_of_row _ _ _ _ _ _ hX3]; rfl
      have q1 : World.cell? (((W.setCell ⟨mb, i, none⟩ (.bool true)).alloc (.cells #[.int .i64 (od : Int), .slice (some ⟨g, 0, none⟩) n c1, .slice o2 n2 c2, .slice o3 n3 c3] 30)).alloc (.cells #[.bool lf, .int .i64 kk, .int .i64 a, .int .i64 cc] 59)) ⟨W.heap.size, 1, none⟩ = some (.slice (some ⟨g, 0, none⟩) n c1) := by rw [cell_of_row _ _ _ _ _ _ hX3]; rfl
      have q2 : World.cell? (((W.setCell ⟨mb, i, none⟩ (.bool true)).alloc (.cells #[.int .i64 (od : Int), .slice (some ⟨g, 0, none⟩) n c1, .slice o2 n2 c2, .slice o3 n3 c3] 30)).alloc (.cells #[.bool lf, .int .i64 kk, .int .i64 a, .int .i64 cc] 59)) ⟨W.heap.size, 2, none⟩ = some (.slice o2 n2 c2) := by rw [cell_of_row _ _ _ _ _ _ hX3]; rfl
      have q3 : World.cell? (((W.setCell ⟨mb, i, none⟩ (.bool true)).alloc (.cells #[.int .i64 (od : Int), .slice (some ⟨g, 0, none⟩) n c1, .slice o2 n2 c2, .slice o3 n3 c3] 30)).alloc (.cells #[.bool lf, .int .i64 kk, .int .i64 a, .int .i64 cc] 59)) ⟨W.heap.size, 3, none⟩ = some (.slice o3 n3 c3) := by rw [cell_of_row _ _ _ _ _ _ hX3]; rfl
      have HO := hideT' (And.intro hR3 hP3)
      have hfs2 : fal (ms.set i true) ≤ f := by omega
      cases lf with
      | true =>
        have HY : Hid (dfs m.h.cells old (f + 1) ms i = ms.set i true) := by
          unfold Hid; rw [HDS2.out]
          split
          · rfl
          · rfl
        clear hW hR hq hP1 hX1 hR1 hW1 hold ih hgs hR2 hP2 hX2 hW2 hd hP3 hX3 hR3 hW3 hfs hfs2 hf
        clear hn
        go_enter Try.func77, Try.ntmps77
        go_wp2
        refine bodyPost_ret (v := .tuple #[]) (by simp [results, Try.results77, go_sem]) rfl ?_
        exact ⟨rfl, by rw [HY.out]; exact HO.out.1, HO.out.2⟩
      | false =>
        by_cases ho : young = true ∧ i < od
        · have HY : Hid (dfs m.h.cells old (f + 1) ms i = ms.set i true) := by
            unfold Hid; rw [HDS2.out, if_pos (by rw [hold, if_pos ho.1]; exact ho.2)]
          obtain ⟨rfl, ho2⟩ := ho
          have hoi : (i : Int) < (od : Int) := by omega
          clear hW hR hq hP1 hX1 hR1 hW1 hold ih hgs hR2 hP2 hX2 hW2 hd hP3 hX3 hR3 hW3 hfs hfs2 hf
          clear hn
          go_enter Try.func77, Try.ntmps77
          go_wp2
          refine bodyPost_ret (v := .tuple #[]) (by simp [results, Try.results77, go_sem]) rfl ?_
          exact ⟨rfl, by rw [HY.out]; exact HO.out.1, HO.out.2⟩
        · have hno : ¬ i < old := by
            rw [hold]
            cases young with
            | true => simp only [if_true]; exact fun h => ho ⟨rfl, h⟩
            | false => simp
          obtain ⟨rfl, A, C, rfl, rfl, hA, hC⟩ := sndC_pair hsn rfl
          have HY : Hid (dfs m.h.cells old (f + 1) ms i = dfs m.h.cells old f (dfs m.h.cells old f (ms.set i true) A) C) := by
            unfold Hid; rw [HDS2.out, if_neg hno]; rfl
          have HC1 := hideT' (ih (ms.set i true) A _ (by rw [List.length_set]; exact hl) hA hfs2 hW3 hR3)
          have hl2 : (dfs m.h.cells old f (ms.set i true) A).length = n := by rw [dfs_len, List.length_set, hl]
          have hf2 : fal (dfs m.h.cells old f (ms.set i true) A) ≤ f := Nat.le_trans (dfs_fal m.h.cells old f (ms.set i true) A (by rw [List.length_set]; omega) (by rw [List.length_set, hl]; exact hs) (by rw [List.length_set]; omega)) hfs2
          have hXC := RowAt.new ((W.setCell ⟨mb, i, none⟩ (.bool true)).alloc (.cells #[.int .i64 (od : Int), .slice (some ⟨g, 0, none⟩) n c1, .slice o2 n2 c2, .slice o3 n3 c3] 30)) 59 #[.bool false, .int .i64 0, .int .i64 (A : Int), .int .i64 (C : Int)]
          have hszb : (((W.setCell ⟨mb, i, none⟩ (.bool true)).alloc (.cells #[.int .i64 (od : Int), .slice (some ⟨g, 0, none⟩) n c1, .slice o2 n2 c2, .slice o3 n3 c3] 30))).heap.size = W.heap.size + 1 := by rw [World.size_alloc, hszw]
          rw [hszb] at hXC
          have HXC := hideT' hXC
          have HX3 := hideT' hX3
          have HW3 := hideT' hW3
          have hsz3 := hP3.size
          have hxl := RowAt.lt hXC
          have IH := hideT' ih
          have hcond : young = false ∨ (young = true ∧ ¬ (i : Int) < (od : Int)) := by
            cases young with
            | true => exact .inr ⟨rfl, fun h => ho ⟨rfl, by omega⟩⟩
            | false => exact .inl rfl
          clear hW hR hq hP1 hX1 hR1 hW1 hold ih hgs hR2 hP2 hX2 hW2 hd hP3 hX3 hR3 hW3 hfs hf hXC ho
          rcases hcond with rfl | ⟨rfl, hoi⟩
          · clear hn
            go_enter Try.func77, Try.ntmps77
            go_wp2_with fail
            refine HC1.out.mono ?_
            rintro e W2 ⟨rfl, hR4, hP4⟩
            have hX4 := hP4.row HX3.out (by omega)
            have hC4 := hP4.row HXC.out (by omega)
            clear q0 q1 q2 q3 p0 p1 p2 p3
            have q0 : W2.cell? ⟨W.heap.size, 0, none⟩ = some (.int .i64 (od : Int)) := by rw [cell_of_row _ _ _ _ _ _ hX4]; rfl
            have q1 : W2.cell? ⟨W.heap.size, 1, none⟩ = some (.slice (some ⟨g, 0, none⟩) n c1) := by rw [cell_of_row _ _ _ _ _ _ hX4]; rfl
            have q2 : W2.cell? ⟨W.heap.size, 2, none⟩ = some (.slice o2 n2 c2) := by rw [cell_of_row _ _ _ _ _ _ hX4]; rfl
            have q3 : W2.cell? ⟨W.heap.size, 3, none⟩ = some (.slice o3 n3 c3) := by rw [cell_of_row _ _ _ _ _ _ hX4]; rfl
            have x3 : W2.cell? ⟨W.heap.size + 1, 3, none⟩ = some (.int .i64 (C : Int)) := by rw [cell_of_row _ _ _ _ _ _ hC4]; rfl
            have HC2 := hideT' (IH.out (dfs m.h.cells old f (ms.set i true) A) C W2 hl2 hC hf2 (hP4.inR HW3.out hg) hR4)
            have HP4 := hideT' (HO.out.2.trans hP4)
            clear hR4 hP4 hX4 hC4
            go_wp2_with fail
            refine HC2.out.mono ?_
            rintro e W5 ⟨rfl, hR5, hP5⟩
            have HO5 := hideT' (And.intro hR5 (HP4.out.trans hP5))
            clear hR5 hP5
            go_wp2
            go_end0
            exact ⟨rfl, by rw [HY.out]; exact HO5.out.1, HO5.out.2⟩
          · clear hn
            go_enter Try.func77, Try.ntmps77
            go_wp2_with fail
            refine HC1.out.mono ?_
            rintro e W2 ⟨rfl, hR4, hP4⟩
            have hX4 := hP4.row HX3.out (by omega)
            have hC4 := hP4.row HXC.out (by omega)
            clear q0 q1 q2 q3 p0 p1 p2 p3
            have q0 : W2.cell? ⟨W.heap.size, 0, none⟩ = some (.int .i64 (od : Int)) := by rw [cell_of_row _ _ _ _ _ _ hX4]; rfl
            have q1 : W2.cell? ⟨W.heap.size, 1, none⟩ = some (.slice (some ⟨g, 0, none⟩) n c1) := by rw [cell_of_row _ _ _ _ _ _ hX4]; rfl
            have q2 : W2.cell? ⟨W.heap.size, 2, none⟩ = some (.slice o2 n2 c2) := by rw [cell_of_row _ _ _ _ _ _ hX4]; rfl
            have q3 : W2.cell? ⟨W.heap.size, 3, none⟩ = some (.slice o3 n3 c3) := by rw [cell_of_row _ _ _ _ _ _ hX4]; rfl
            have x3 : W2.cell? ⟨W.heap.size + 1, 3, none⟩ = some (.int .i64 (C : Int)) := by rw [cell_of_row _ _ _ _ _ _ hC4]; rfl
            have HC2 := hideT' (IH.out (dfs m.h.cells old f (ms.set i true) A) C W2 hl2 hC hf2 (hP4.inR HW3.out hg) hR4)
            have HP4 := hideT' (HO.out.2.trans hP4)
            clear hR4 hP4 hX4 hC4
            go_wp2_with fail
            refine HC2.out.mono ?_
            rintro e W5 ⟨rfl, hR5, hP5⟩
            have HO5 := hideT' (And.intro hR5 (HP4.out.trans hP5))
            clear hR5 hP5
            go_wp2
            go_end0
            exact ⟨rfl, by rw [HY.out]; exact HO5.out.1, HO5.out.2⟩
end
end Go.Proofs.Ytoaancgmahdbnaa
