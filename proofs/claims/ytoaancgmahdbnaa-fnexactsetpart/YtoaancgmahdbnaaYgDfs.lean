/-
  What is reached of cells that may name any cells: marking goes from one to the next, on both sides.
-/
import Derived.Test.YtoaancgmahdbnaaYgWr
namespace Go.Proofs.Ytoaancgmahdbnaa
open Go.RowKit Go.Shelf BL
set_option linter.unusedVariables false

/-- How many are not marked. -/
def fal : List Bool → Nat
  | [] => 0
  | b :: l => (if b then 0 else 1) + fal l
theorem fal_set : ∀ (ms : List Bool) (i : Nat), i < ms.length → bAt ms i = false → fal (ms.set i true) + 1 = fal ms
  | [], i, h, _ => by simp at h
  | b :: l, 0, _, h => by
    have : b = false := h
    subst this
    simp [fal]; omega
  | b :: l, i + 1, h, hb => by
    have := fal_set l i (by simpa using h) (by simpa [bAt] using hb)
    simp only [List.set_cons_succ, fal]; omega
theorem fal_zero : ∀ (ms : List Bool) (i : Nat), i < ms.length → fal ms = 0 → bAt ms i = true
  | [], i, h, _ => by simp at h
  | b :: l, 0, _, h => by
    cases b with
    | true => rfl
    | false => simp [fal] at h
  | b :: l, i + 1, h, hb => by
    have := fal_zero l i (by simpa using h) (by simp only [fal] at hb; omega)
    simpa [bAt] using this
theorem fal_le : ∀ ms : List Bool, fal ms ≤ ms.length
  | [] => Nat.le_refl _
  | b :: l => by have := fal_le l; simp only [fal, List.length_cons]; split <;> omega

/-- Marking a cell, and what it names, from cells from old on alone. -/
def dfs (cs : List Cl) (old : Nat) : Nat → List Bool → Nat → List Bool
  | 0, ms, _ => ms
  | f + 1, ms, i => if bAt ms i then ms else if i < old then ms.set i true else if (cs.getD i default).1 then ms.set i true else dfs cs old f (dfs cs old f (ms.set i true) (cs.getD i default).2.2.1.toNat) (cs.getD i default).2.2.2.toNat
/-- A cell's parts. -/
def prt (cs : List Cl) (old f : Nat) (ms : List Bool) (c : Cl) : List Bool := if c.1 then ms else dfs cs old f (dfs cs old f ms c.2.2.1.toNat) c.2.2.2.toNat
theorem dfs_succ (cs : List Cl) (old f : Nat) (ms : List Bool) (i : Nat) : dfs cs old (f + 1) ms i = if bAt ms i then ms else if i < old then ms.set i true else prt cs old f (ms.set i true) (cs.getD i default) := rfl
theorem dfs_len (cs : List Cl) (old f : Nat) : ∀ (ms : List Bool) (i : Nat), (dfs cs old f ms i).length = ms.length := by
  induction f with
  | zero => intro ms i; rfl
  | succ f ih =>
    intro ms i
    rw [dfs]
    split
    · rfl
    · split
      · simp
      · split
        · simp
        · rw [ih, ih, List.length_set]
theorem dfs_fal (cs : List Cl) (old f : Nat) : ∀ (ms : List Bool) (i : Nat), i < ms.length → cs.all (sndC ms.length) = true → ms.length = cs.length → fal (dfs cs old f ms i) ≤ fal ms := by
  induction f with
  | zero => intro ms i _ _ _; exact Nat.le_refl _
  | succ f ih =>
    intro ms i hi hs hl
    rw [dfs]
    split
    · exact Nat.le_refl _
    · rename_i hb
      have h1 := fal_set ms i hi (by simpa using hb)
      split
      · omega
      · split
        · omega
        · rename_i hlf
          have hsn : sndC ms.length (cs.getD i default) = true := getD_all hs (by omega)
          obtain ⟨d, hd⟩ : ∃ d, d = cs.getD i default := ⟨_, rfl⟩
          rw [← hd] at hsn hlf ⊢
          obtain ⟨lf', k', a', b'⟩ := d
          obtain ⟨_, A, C, rfl, rfl, hA, hC⟩ := sndC_pair hsn (by simpa using hlf)
          simp only [Int.toNat_natCast]
          have h2 := ih (ms.set i true) A (by rw [List.length_set]; exact hA) (by rw [List.length_set]; exact hs) (by rw [List.length_set]; exact hl)
          have h3 := ih (dfs cs old f (ms.set i true) A) C (by rw [dfs_len, List.length_set]; exact hC) (by rw [dfs_len, List.length_set]; exact hs) (by rw [dfs_len, List.length_set]; exact hl)
          omega

/-! The program's side: marks as an array. -/
def WRd (W : World) (hb n c1 : Nat) (o1 : Option Addr) (cs : List Cl) : Prop := W.cell? ⟨hb, 1, none⟩ = some (.slice o1 n c1) ∧ InR W (.slice o1 n c1) cellL 4 cs
theorem OnlyP.refl (S : Nat → Prop) (w : World) : OnlyP S w w := ⟨rfl, rfl, rfl, Nat.le_refl _, fun _ _ _ => rfl⟩
theorem OnlyP.trans {S : Nat → Prop} {a b c : World} (h : OnlyP S a b) (h' : OnlyP S b c) : OnlyP S a c := ⟨h'.os.trans h.os, h'.tape.trans h.tape, h'.output.trans h.output, Nat.le_trans h.size h'.size, fun k hk hS => (h'.block k (Nat.lt_of_lt_of_le hk h.size) hS).trans (h.block k hk hS)⟩
theorem OnlyP.row {S : Nat → Prop} {w w' : World} {b : Nat} {t : TypeId} {cs : Array Value} (h : OnlyP S w w') (hr : RowAt w b t cs) (hb : ¬ S b) : RowAt w' b t cs := by unfold RowAt; rw [h.block b hr.lt hb]; exact hr
theorem OnlyP.inR {S : Nat → Prop} {X : Type} [Inhabited X] {w w' : World} {v : Value} {f : X → List Value} {c : Nat} {l : List X} (h : OnlyP S w w') (hi : InR w v f c l) (hb : ∀ g, v.ownBlock = some g → ¬ S g) : InR w' v f c l := by
  obtain ⟨o, cap, rfl, hi⟩ := hi
  refine ⟨o, cap, rfl, fun hl => ?_⟩
  obtain ⟨b, rfl, hlt, hc⟩ := hi hl
  have hn := hb b rfl
  exact ⟨b, rfl, Nat.lt_of_lt_of_le hlt h.size, fun i j u hi hu => by rw [World.cell?_of_block (h.block b hlt hn)]; exact hc i j u hi hu⟩
theorem WRd.only {W W' : World} {hb n c1 mb : Nat} {o1 : Option Addr} {cs : List Cl} (h : WRd W hb n c1 o1 cs) (hP : OnlyP (· = mb) W W') (hne : hb ≠ mb) (hg : ∀ g, (Value.slice o1 n c1).ownBlock = some g → g ≠ mb) : WRd W' hb n c1 o1 cs := by
  refine ⟨?_, hP.inR h.2 hg⟩
  rw [World.cell?_of_block (hP.block hb (block_lt_of_cell (a := ⟨hb, 1, none⟩) h.1) hne)]; exact h.1

section
variable (cs : List Cl) (n : Nat) (hn : n = cs.length) (h200 : n ≤ 200) (hs : cs.all (sndC n) = true) (Z : List Bool) (hZ : Z.length = 200 - n) (hb mb old c1 : Nat) (o1 : Option Addr) (hne : hb ≠ mb) (hg : ∀ g, (Value.slice o1 n c1).ownBlock = some g → g ≠ mb)
/-- What mark does with fuel f. -/
def MarkOk (f : Nat) : Prop := ∀ (ms : List Bool) (i : Nat) (W : World), ms.length = n → i < n → fal ms ≤ f → WRd W hb n c1 o1 cs → RecAt W mb 66 boolL (ms ++ Z) →
  Calls Try.prog 79 #[.pointer (some ⟨hb, 0, none⟩), .pointer (some ⟨mb, 0, none⟩), .int .i64 (i : Int), .int .i64 (old : Int)] W fun e W' => e = .returned (.tuple #[]) ∧ RecAt W' mb 66 boolL (dfs cs old f ms i ++ Z) ∧ OnlyP (· = mb) W W'

set_option maxRecDepth 100000 in
set_option maxHeartbeats 2000000 in
include hn hs hne hg in
theorem markParts_any (f : Nat) (hM : MarkOk cs n Z hb mb old c1 o1 f) (ms : List Bool) (c : Cl) (W : World) (hl : ms.length = n) (hc : sndC n c = true) (hf : fal ms ≤ f) (hW : WRd W hb n c1 o1 cs) (hR : RecAt W mb 66 boolL (ms ++ Z)) :
    Calls Try.prog 80 #[.pointer (some ⟨hb, 0, none⟩), .pointer (some ⟨mb, 0, none⟩), .agg (cellL c).toArray, .int .i64 (old : Int)] W fun e W' => e = .returned (.tuple #[]) ∧ RecAt W' mb 66 boolL (prt cs old f ms c ++ Z) ∧ OnlyP (· = mb) W W' := by
  obtain ⟨lf, k, a, b⟩ := c
  show Calls Try.prog 80 #[.pointer (some ⟨hb, 0, none⟩), .pointer (some ⟨mb, 0, none⟩), .agg #[.bool lf, .int .i64 k, .int .i64 a, .int .i64 b], .int .i64 (old : Int)] W _
  obtain ⟨W1, hW1⟩ : ∃ W1, W1 = W.alloc (.cells #[.bool lf, .int .i64 k, .int .i64 a, .int .i64 b] 59) := ⟨_, rfl⟩
  have hP1 : OnlyP (· = mb) W W1 := by rw [hW1]; exact OnlyP.of_below ((Below.refl _ _).alloc (Nat.le_refl _) _)
  have hX1 : RowAt W1 W.heap.size 59 #[.bool lf, .int .i64 k, .int .i64 a, .int .i64 b] := by rw [hW1]; exact RowAt.new _ _ _
  have hR1 : RecAt W1 mb 66 boolL (ms ++ Z) := by rw [hW1]; exact RowAt.old hR _
  have hmb := RecAt.lt hR
  have hWr1 := hW.only hP1 hne hg
  cases lf with
  | true =>
    have HO := hideT' (And.intro hR1 hP1)
    rw [hW1] at HO
    clear hW hR hP1 hX1 hR1 hWr1 hW1
    go_enter Try.func80, Try.ntmps80
    go_wp2
    go_end0
    exact ⟨rfl, HO.out.1, HO.out.2⟩
  | false =>
    obtain ⟨rfl, A, C, rfl, rfl, hA, hC⟩ := sndC_pair hc rfl
    have HC1 := hideT' (hM ms A W1 hl hA hf hWr1 hR1)
    have hl2 : (dfs cs old f ms A).length = n := by rw [dfs_len, hl]
    have hf2 : fal (dfs cs old f ms A) ≤ f := Nat.le_trans (dfs_fal cs old f ms A (by omega) (by rw [hl]; exact hs) (by omega)) hf
    have HP1 := hideT' hP1
    have HX1 := hideT' hX1
    have HWR1 := hideT' hWr1
    have HW1 := hideT' hW1
    have HM := hideT' hM
    have hsz := hP1.size
    have hxl := RowAt.lt hX1
    clear hW hR hP1 hX1 hR1 hWr1 hW1 hM
    go_enter Try.func80, Try.ntmps80
    go_wp2_with fail
    rw [← HW1.out]
    refine HC1.out.mono ?_
    rintro e W2 ⟨rfl, hR2, hP2⟩
    have hX2 := hP2.row HX1.out (by omega)
    have x3 : W2.cell? ⟨W.heap.size, 3, none⟩ = some (.int .i64 (C : Int)) := by rw [cell_of_row _ _ _ _ _ _ hX2]; rfl
    have HC2 := hideT' (HM.out (dfs cs old f ms A) C W2 hl2 hC hf2 (HWR1.out.only hP2 hne hg) hR2)
    have HP2 := hideT' (HP1.out.trans hP2)
    clear hR2 hP2 hX2
    go_wp2_with fail
    refine HC2.out.mono ?_
    rintro e W3 ⟨rfl, hR3, hP3⟩
    have HO := hideT' (And.intro hR3 (HP2.out.trans hP3))
    clear hR3 hP3
    go_wp2
    go_end0
    exact ⟨rfl, HO.out.1, HO.out.2⟩

set_option maxRecDepth 100000 in
set_option maxHeartbeats 2000000 in
include hn h200 hs hZ hne hg in
theorem mark_all : ∀ f, MarkOk cs n Z hb mb old c1 o1 f := by
  intro f
  induction f with
  | zero =>
    intro ms i W hl hi hf hW hR
    have hb1 := fal_zero ms i (by omega) (by omega)
    have hcc := cm_cell hR (i := i) (by rw [List.length_append]; omega)
    have e : bAt (ms ++ Z) i = bAt ms i := by unfold bAt; simp only [List.getD]; rw [List.getElem?_append_left (by omega)]
    rw [e, hb1] at hcc
    have HR := hideT' hR
    have hi2 : i < 200 := by omega
    clear hW hR
    go_enter Try.func79, Try.ntmps79
    go_wp2
    refine bodyPost_ret (v := .tuple #[]) (by simp [results, Try.results79, go_sem]) rfl ?_
    exact ⟨rfl, HR.out, OnlyP.refl _ _⟩
  | succ f ih =>
    intro ms i W hl hi hf hW hR
    have hcc := cm_cell hR (i := i) (by rw [List.length_append]; omega)
    have e : bAt (ms ++ Z) i = bAt ms i := by unfold bAt; simp only [List.getD]; rw [List.getElem?_append_left (by omega)]
    rw [e] at hcc
    have hi2 : i < 200 := by omega
    have HDS := hideT' (dfs_succ cs old f ms i)
    obtain ⟨q, hq⟩ : ∃ q, q = bAt ms i := ⟨_, rfl⟩
    rw [← hq] at hcc HDS
    cases q with
    | true =>
      have HY : Hid (dfs cs old (f + 1) ms i = ms) := by unfold Hid; rw [HDS.out]; rfl
      have HR := hideT' hR
      clear hW hR hq e
      go_enter Try.func79, Try.ntmps79
      go_wp2
      refine bodyPost_ret (v := .tuple #[]) (by simp [results, Try.results79, go_sem]) rfl ?_
      exact ⟨rfl, by rw [HY.out]; exact HR.out, OnlyP.refl _ _⟩
    | false =>
      have hff := cm_froz hR i
      have hfs := fal_set ms i (by omega) hq.symm
      have hset : (ms ++ Z).set i true = ms.set i true ++ Z := List.set_append_left _ _ (by omega)
      have hR1 := cm_set hR i true
      rw [hset] at hR1
      have hgs := grown_set W mb i (.bool true)
      have hP1 : OnlyP (· = mb) W (W.setCell ⟨mb, i, none⟩ (.bool true)) := (OnlyP.refl _ _).grown hgs (fun r e => .inr (by injection e with e; exact e.symm))
      have hW1 := hW.only hP1 hne hg
      by_cases ho : old ≤ i
      · have HY : Hid (dfs cs old (f + 1) ms i = prt cs old f (ms.set i true) (cs.getD i default)) := by unfold Hid; rw [HDS.out, if_neg (by simp), if_neg (by omega)]
        have hoi : (old : Int) ≤ (i : Int) := by omega
        have hin : (i : Int) < (n : Int) := by omega
        obtain ⟨d, hd⟩ : ∃ d, d = cs.getD i default := ⟨_, rfl⟩
        have hsn : sndC n d = true := by rw [hd]; exact getD_all hs (by omega)
        rw [← hd] at HY
        have HC := hideT' (markParts_any cs n hn hs Z hb mb old c1 o1 hne hg f ih (ms.set i true) d _ (by rw [List.length_set]; exact hl) hsn (by omega) hW1 hR1)
        obtain ⟨lf, kk, a, cc⟩ := d
        obtain ⟨g, rfl, p0, p1, p2, p3⟩ := InR.cells4 hW1.2 (by omega) hd
        have f1 := hW1.1
        have HP1 := hideT' hP1
        clear hW hR hq e hgs hW1 hR1 hd hset hfs hP1 ih HDS hf
        go_enter Try.func79, Try.ntmps79
        go_wp2_with fail
        refine HC.out.mono ?_
        rintro e W2 ⟨rfl, hR2, hP2⟩
        have HO := hideT' (And.intro hR2 (HP1.out.trans hP2))
        clear hR2 hP2
        go_wp2
        go_end0
        exact ⟨rfl, by rw [HY.out]; exact HO.out.1, HO.out.2⟩
      · have HY : Hid (dfs cs old (f + 1) ms i = ms.set i true) := by unfold Hid; rw [HDS.out, if_neg (by simp), if_pos (by omega)]
        have hoi : (i : Int) < (old : Int) := by omega
        have HO := hideT' (And.intro hR1 hP1)
        clear hW hR hq e hgs hW1 hR1 hset hfs hP1 ih HDS hf
        go_enter Try.func79, Try.ntmps79
        go_wp2
        go_end0
        exact ⟨rfl, by rw [HY.out]; exact HO.out.1, HO.out.2⟩
end
end Go.Proofs.Ytoaancgmahdbnaa
