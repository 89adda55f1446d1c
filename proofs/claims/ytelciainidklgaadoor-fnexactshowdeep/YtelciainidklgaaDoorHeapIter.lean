/-
  The iterators of chapter 7: cells from the back, and those that are marked.
-/
import Derived.Test.YtelciainidklgaaDoorRangeAny
import Derived.Test.YtelciainidklgaaDoorHeapMath
import Derived.RangeFuncBound
import Derived.RangeFuncCalls
import Derived.RangeFuncLeaves
import Derived.Shelf.Abstract
import Derived.Shelf.RegionOpen
import Derived.WalkKit
import Derived.OwnWalkIn
import Derived.TacticsInMore
import Derived.LoopNIn
import Derived.LoopIn
namespace Go.Proofs.YtelciainidklgaaDoor
open Go.RowKit Go.Shelf
set_option linter.unusedVariables false
attribute [local go_sem] Oper.semAt_some

/-- A number and the cell that has it. -/
def encC (cs : List Cl) (i : Nat) : Array Value := #[.int .i64 (i : Int), .agg (cellL (cs.getD i default)).toArray]
theorem encC_eq {cs : List Cl} {i : Nat} {lf : Bool} {n a c : Int} (h : (lf, n, a, c) = cs.getD i default) : encC cs i = #[.int .i64 (i : Int), .agg #[.bool lf, .int .i64 n, .int .i64 a, .int .i64 c]] := by
  unfold encC; rw [← h]; rfl
def NeedB (bs : Nat) (o : Option Addr) (cap : Nat) (cs : List Cl) (pre : List Nat) (W : World) : Prop := W.cell? ⟨bs, 0, none⟩ = some (.slice o cs.length cap) ∧ InR W (.slice o cs.length cap) cellL 4 cs
def NxB (cs : List Cl) (pre : List Nat) (x : Nat) : Prop := x < cs.length ∧ pre.length + x + 1 = cs.length
def upN (v : Value) : Nat := match v with | .int _ y => (y + 1).toNat | _ => 0

set_option maxRecDepth 100000 in
set_option maxHeartbeats 2000000 in
theorem backward_seq (n : Nat) (hn : 1 ≤ n) (cs : List Cl) (hl : cs.length ≤ 1048576) (bs : Nat) (o : Option Addr) (cap : Nat) :
    SeqAny n Tryd.prog 110 #[.pointer (some ⟨bs, 0, none⟩)] (encC cs) (NeedB bs o cap cs) (NxB cs) (fun xs => xs.length = cs.length) := fun l J W hJ hY h0 => by
  obtain ⟨hb0, hc0⟩ := hJ _ _ h0
  have HC0 := hideT' hc0
  have HJ := hideT' hJ
  have HY := hideT' hY
  clear hJ hY hc0
  refine callsIn_of_wp Tryd.func110 rfl trivial ?_ rfl
  simp only [Tryd.ntmps110, List.size_toArray, List.length_cons, List.length_nil, Nat.reduceAdd, Nat.reduceSub, Array.replicate_succ, Array.replicate_zero, List.push_toArray, List.append_toArray, List.nil_append, List.cons_append]
  gi_wp2
  gi_loopw [3] (fun x wr => ∃ (pre : List Nat) (y : Int), x = .int .i64 y ∧ y + 1 + (pre.length : Int) = (cs.length : Int) ∧ -1 ≤ y ∧ J pre wr) (fun x wr => upN x)
  case atStart => exact ⟨[], (cs.length : Int) - 1, by go_num, by simp, by omega, h0⟩
  case round =>
    obtain ⟨pre, y, rfl, hy, hy1, hj⟩ := hrel
    clear hb0
    obtain ⟨hb, hc⟩ := HJ.out _ _ hj
    by_cases hy0 : y < 0
    · have hp : pre.length = cs.length := by omega
      have HP := hideT' hp
      clear hp hy
      gi_wp2
      go_end0
      exact ⟨⟨_, rfl⟩, pre, HP.out, hj⟩
    · obtain ⟨i, rfl⟩ : ∃ i : Nat, y = (i : Int) := ⟨y.toNat, by omega⟩
      have hi : i < cs.length := by omega
      have hil : (i : Int) < (cs.length : Int) := by omega
      have HNX : Hid (NxB cs pre i) := ⟨hi, by omega⟩
      obtain ⟨d, hd⟩ : ∃ d, d = cs.getD i default := ⟨_, rfl⟩
      obtain ⟨lf, k, a, c⟩ := d
      obtain ⟨g, rfl, q0, q1, q2, q3⟩ := hc.cells4 hi hd
      have HYL := hideT' (HY.out pre i wr HNX.out hj)
      have HE := hideT' (encC_eq hd)
      have HY2 := hideT' hy
      clear hc hd hy hy0 hy1
      gi_wp2
      obtain ⟨fn, tmps, assign, body, hyl, hR⟩ := HYL.out
      rw [HE.out] at hyl
      rw [hyl]
      gi_wp2
      refine hR.mono ?_
      rintro e W3 ⟨rfl, hJ3⟩
      gi_wp2
      go_roundw
      case rel => exact ⟨pre ++ [i], (i : Int) - 1, by go_num, by have := HY2.out; simp; omega, by omega, hJ3⟩
      case measure => simp [upN]

/-- Marks as they lie in a part of a block. -/
def MarksAt (W : World) (mb off : Nat) (ms : List Bool) : Prop := ∀ i, i < ms.length → W.cell? ⟨mb, off + i, none⟩ = some (.bool (bAt ms i))
theorem MarksAt.of_row {W : World} {mb : Nat} {ms : List Bool} (h : RecAt W mb 4 boolL ms) : MarksAt W mb 0 ms := fun i hi => by
  rw [Nat.zero_add]; exact bool_cell h hi
/-- What the other iterator needs: the marks, the heap's own slice, and each cell that is still to come. -/
def NeedO (bm bh hb mb off kc : Nat) (o : Option Addr) (k n cap : Nat) (cs : List Cl) (ms : List Bool) (pre : List Nat) (W : World) : Prop :=
  (W.cell? ⟨bm, 0, none⟩ = some (.slice (some ⟨mb, off, none⟩) k kc) ∧ W.cell? ⟨bh, 0, none⟩ = some (.pointer (some ⟨hb, 0, none⟩)) ∧ W.cell? ⟨hb, 1, none⟩ = some (.slice o n cap)) ∧ MarksAt W mb off ms ∧
  ∀ i, i < k → bAt ms i = true → pre = idxTo ms i → ∃ g, o = some ⟨g, 0, none⟩ ∧ ∀ j u, (cellL (cs.getD i default))[j]? = some u → W.cell? ⟨g, i * 4 + j, none⟩ = some u
def NxO (n : Nat) (ms : List Bool) (pre : List Nat) (x : Nat) : Prop := x < n ∧ bAt ms x = true ∧ pre = idxTo ms x

set_option maxRecDepth 100000 in
set_option maxHeartbeats 2000000 in
theorem only_seq (m : Nat) (hm : 1 ≤ m) (cs : List Cl) (ms : List Bool) (n nc : Nat) (hl : n ≤ 1048576) (hml : ms.length = n) (hnc : n ≤ nc) (bm bh hb mb off kc cap : Nat) (o : Option Addr) :
    SeqAny m Tryd.prog 107 #[.pointer (some ⟨bm, 0, none⟩), .pointer (some ⟨bh, 0, none⟩)] (encC cs) (NeedO bm bh hb mb off kc o n nc cap cs ms) (NxO n ms) (fun xs => xs = idxTo ms n) := fun l J W hJ hY h0 => by
  obtain ⟨⟨hb0, _, _⟩, _, _⟩ := hJ _ _ h0
  have HJ := hideT' hJ
  have HY := hideT' hY
  have HML := hideT' hml
  clear hJ hY hml
  refine callsIn_of_wp Tryd.func107 rfl trivial ?_ rfl
  simp only [Tryd.ntmps107, List.size_toArray, List.length_cons, List.length_nil, Nat.reduceAdd, Nat.reduceSub, Array.replicate_succ, Array.replicate_zero, List.push_toArray, List.append_toArray, List.nil_append, List.cons_append]
  gi_wp2
  gi_loopw [8] (fun x wr => ∃ k : Nat, x = .int .i64 (k : Int) ∧ k ≤ n ∧ J (idxTo ms k) wr) (fun x wr => n + 1 - upN x)
  case atStart => exact ⟨0, by go_num, by omega, h0⟩
  case round =>
    obtain ⟨k, rfl, hk, hj⟩ := hrel
    clear hb0
    obtain ⟨⟨hb, hh, hc⟩, hD, hcl⟩ := HJ.out _ _ hj
    by_cases hlt : (k : Int) < (n : Int)
    · have hk' : k < n := by omega
      have hbit := hD k (by rw [HML.out]; exact hk')
      have hkc : (k : Int) < (nc : Int) := by omega
      have hsucc := idxTo_succ ms k
      obtain ⟨q, hq⟩ : ∃ q, q = bAt ms k := ⟨_, rfl⟩
      have HQ := hideT' hq
      rw [← hq] at hbit hsucc
      clear hq
      cases q with
      | false =>
        have HS : Hid (idxTo ms (k + 1) = idxTo ms k) := by unfold Hid; rw [hsucc]; rfl
        clear hsucc hcl hD hh hc
        gi_wp2
        refine ⟨(fun f e => by cases e), ?_⟩
        gi_wp2
        go_roundw
        case rel => exact ⟨k + 1, by go_num, by omega, by rw [HS.out]; exact hj⟩
        case measure => simp [upN]; omega
      | true =>
        have HS : Hid (idxTo ms (k + 1) = idxTo ms k ++ [k]) := by unfold Hid; rw [hsucc]; rfl
        have HNX : Hid (NxO n ms (idxTo ms k) k) := ⟨hk', HQ.out.symm, rfl⟩
        obtain ⟨g, hgo, hcc⟩ := hcl k hk' HQ.out.symm rfl
        subst hgo
        obtain ⟨d, hd⟩ : ∃ d, d = cs.getD k default := ⟨_, rfl⟩
        have HE : Hid (encC cs k = #[.int .i64 (k : Int), .agg (cellL d).toArray]) := by unfold Hid encC; rw [hd]
        rw [← hd] at hcc
        obtain ⟨lf, kk, a, c⟩ := d
        have q0 := hcc 0 (.bool lf) rfl
        have q1 := hcc 1 (.int .i64 kk) rfl
        have q2 := hcc 2 (.int .i64 a) rfl
        have q3 := hcc 3 (.int .i64 c) rfl
        rw [Nat.add_zero] at q0
        have HYL := hideT' (HY.out _ k wr HNX.out hj)
        clear hsucc hcl hD hcc hd
        gi_wp2
        obtain ⟨fn, tmps, assign, body, hyl, hR⟩ := HYL.out
        rw [HE.out] at hyl
        have hyl' : (Instr.yield l #[.int .i64 (k : Int), .agg #[.bool lf, .int .i64 kk, .int .i64 a, .int .i64 c]]).run Tryd.prog wr = _ := hyl
        rw [hyl']
        gi_wp2
        refine hR.mono ?_
        rintro e W3 ⟨rfl, hJ3⟩
        gi_wp2
        go_roundw
        case rel => exact ⟨k + 1, by go_num, by omega, by rw [HS.out]; exact hJ3⟩
        case measure => simp [upN]; omega
    · have hkn : k = n := by omega
      have HJn : Hid (J (idxTo ms n) wr) := by unfold Hid; rw [← hkn]; exact hj
      clear hcl hD hh hc hj
      gi_wp2
      go_end0
      exact ⟨⟨_, rfl⟩, HJn.out⟩
end Go.Proofs.YtelciainidklgaaDoor
