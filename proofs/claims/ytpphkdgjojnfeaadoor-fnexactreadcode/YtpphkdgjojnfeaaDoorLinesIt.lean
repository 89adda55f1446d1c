/-
  strings.Lines: what comes, line by line.
-/
import Derived.Test.YtpphkdgjojnfeaaDoorRangeBox
import Derived.Test.YtpphkdgjojnfeaaDoorCodeRead
import Derived.Test.YtpphkdgjojnfeaaDoorShelfCut
import Derived.RangeFuncBound
import Derived.RangeFuncCalls
import Derived.RangeFuncLeaves
import Derived.Shelf.Abstract
import Derived.Shelf.RegionOpen
import Derived.WalkKit
import Derived.OwnWalkIn
import Derived.TacticsInMore
import Derived.LoopNIn
import Derived.LoopIn
namespace Go.Proofs.YtpphkdgjojnfeaaDoor
open Go.RowKit Go.Shelf
set_option linter.unusedVariables false
attribute [local go_sem] Oper.semAt_some

/-- The next line of a text, its end with it, and what is left. -/
def nextL (r : List UInt8) : List UInt8 × List UInt8 := if (cutB 10 r).2.2 = true then ((cutB 10 r).1 ++ [10], (cutB 10 r).2.1) else (r, [])
def restOf (s : List UInt8) (pre : List ByteArray) : List UInt8 := s.drop ((pre.map (·.size)).sum)
/-- The line that comes next. -/
def NxL (s : List UInt8) (pre : List ByteArray) (x : ByteArray) : Prop := restOf s pre ≠ [] ∧ x.data.toList = (nextL (restOf s pre)).1
theorem nextL_app (r : List UInt8) : r = (nextL r).1 ++ (nextL r).2 := by
  unfold nextL
  by_cases h : (cutB 10 r).2.2 = true
  · rw [if_pos h]
    have := cutB_back 10 r h
    simpa using this
  · rw [if_neg h]; simp
theorem restOf_snoc {s : List UInt8} {pre : List ByteArray} {x : ByteArray} (h : NxL s pre x) : restOf s (pre ++ [x]) = (nextL (restOf s pre)).2 := by
  have h1 := nextL_app (restOf s pre)
  have h2 : x.data.toList.length = x.size := by simp
  have h3 : restOf s (pre ++ [x]) = (restOf s pre).drop x.size := by
    unfold restOf
    rw [List.map_append, List.sum_append, ← List.drop_drop]
    simp
  rw [h3, ← h2, h.2]
  generalize (nextL (restOf s pre)).1 = A at *
  generalize (nextL (restOf s pre)).2 = B at *
  rw [h1]
  simp
/-- How much is left, read off the world. -/
def leftB (Bn : Nat) (W : World) : Nat := match W.cell? ⟨Bn, 0, none⟩ with | some (.string r) => r.size | _ => 0
theorem leftB_eq {Bn : Nat} {W : World} {r : ByteArray} (h : W.cell? ⟨Bn, 0, none⟩ = some (.string r)) : leftB Bn W = r.size := by unfold leftB; rw [h]

set_option maxRecDepth 100000 in
set_option maxHeartbeats 2000000 in
theorem lines_seq (n : Nat) (hn : 1 ≤ n) (s : ByteArray) (hs : s.size ≤ 1048576) (Bn : Nat) :
    BoxSeq n Tryd.prog 35 #[.pointer (some ⟨Bn, 0, none⟩)] Bn (some (.cells #[.string s] 9 (0, 0))) (NxL s.data.toList) (fun xs => restOf s.data.toList xs = []) := fun l J Jx W hW hJ hY h0 => by
  refine callsIn_of_wp Tryd.func35 rfl trivial ?_ rfl
  simp only [Tryd.ntmps35, List.size_toArray, List.length_cons, List.length_nil, Nat.reduceAdd, Nat.reduceSub, Array.replicate_succ, Array.replicate_zero, List.push_toArray, List.append_toArray, List.nil_append, List.cons_append]
  gi_wp2
  gi_loopw [3, 4] (fun x y wr => ∃ (pre : List ByteArray) (r : ByteArray), J pre wr ∧ wr.heap[Bn]? = some (.cells #[.string r] 9 (0, 0)) ∧ r.data.toList = restOf s.data.toList pre ∧ r.size ≤ 1048576) (fun x y wr => leftB Bn wr)
  case atStart => exact ⟨[], s, h0, hW, by simp [restOf], hs⟩
  case round =>
    obtain ⟨pre, r, hj, hb, hr, hrs⟩ := hrel
    have hc : wr.cell? ⟨Bn, 0, none⟩ = some (.string r) := by rw [cell_of_row wr Bn 0 _ _ _ hb]; rfl
    have hf : wr.frozen? ⟨Bn, 0, none⟩ = false := frozen_of_row wr Bn 0 _ _ hb
    by_cases hr0 : r.size = 0
    · have hre : restOf s.data.toList pre = [] := by rw [← hr]; exact List.length_eq_zero_iff.1 (by simpa using hr0)
      have HRE := hideT' hre
      have hrn : r = ⟨#[]⟩ := ByteArray.ext (Array.ext' (by rw [hr, hre]))
      subst hrn
      clear hre hr hr0
      gi_wp2
      go_end0
      exact ⟨⟨_, rfl⟩, .inl ⟨pre, HRE.out, hj⟩⟩
    · have hrp : (0 : Int) < (r.size : Int) := by omega
      have hrne : restOf s.data.toList pre ≠ [] := fun e => hr0 (by rw [← hr] at e; simpa using congrArg List.length e)
      have HRN := hideT' hrne
      have hge := Lib.indexByte_ge r.data.toList 10
      obtain ⟨x, hx⟩ : ∃ x, x = Lib.indexByte r.data.toList 10 := ⟨_, rfl⟩
      have HRR := hideT' hr
      rw [← hx] at hge
      have HC : Hid (∀ w, Calls Tryd.prog 36 #[.string r, .int .u8 10] w fun e w' => e = .returned (.int .i64 x) ∧ w' = w) := fun w => by
        refine (Tryd.strings_IndexByte r 10 w).mono ?_
        rintro e w' ⟨rfl, rfl⟩
        exact ⟨by rw [hx]; rfl, rfl⟩
      by_cases h : 0 ≤ x
      · obtain ⟨i, rfl⟩ : ∃ i : Nat, x = (i : Int) := ⟨x.toNat, by omega⟩
        obtain ⟨h1, h2⟩ := Lib.indexByte_some hx.symm
        have hcut := cutB_some 10 r.data.toList i h1 h2
        have hi : i < r.size := by
          have := (List.getElem?_eq_some_iff.1 h1).1
          simpa using this
        obtain ⟨k1, hk1⟩ : ∃ k1, k1 = i + 1 := ⟨_, rfl⟩
        have hwk : IntKind.i64.wrap ((i : Int) + 1) = (k1 : Int) := by rw [IntKind.wrap_i64]; omega
        have hi3 : (k1 : Int) ≤ (r.size : Int) := by omega
        have hi4 : (i : Int) + 1 = (k1 : Int) := by omega
        have HI4 := hideT' hi4
        have hnx : nextL (restOf s.data.toList pre) = ((r.extract 0 k1).data.toList, (r.extract k1 r.size).data.toList) := by
          rw [← hr]
          unfold nextL
          rw [hcut, if_pos rfl, ext_head, ext_tail, hk1]
          simp only [Prod.mk.injEq, and_true]
          rw [List.take_succ_eq_append_getElem (by simpa using hi)]
          congr 1
          have := (List.getElem?_eq_some_iff.1 h1).2
          rw [this]
        have HNX : Hid (NxL s.data.toList pre (r.extract 0 k1)) := ⟨hrne, by rw [hnx]⟩
        have HRS : Hid ((r.extract k1 r.size).data.toList = restOf s.data.toList (pre ++ [r.extract 0 k1])) := by unfold Hid; rw [restOf_snoc HNX.out, hnx]
        have hsz : (r.extract k1 r.size).size < r.size := by
          have := congrArg List.length (ext_tail r k1)
          simp only [Array.length_toList, List.length_drop] at this
          have e2 : (r.extract k1 r.size).data.size = (r.extract k1 r.size).size := rfl
          have e3 : r.data.size = r.size := rfl
          omega
        have HSZ := hideT' hsz
        clear hx hr hr0 hge h1 h2 hcut hnx hrne hk1 hsz hi4
        gi_wp2_with (refine ⟨trivial, ?_⟩; gi_at_call 36; refine (callsIn_wide.2 (HC.out _)).mono ?_; rintro e w1 ⟨rfl, rfl⟩)
        gi_region
        gi_wp2
        have hgr : w1.grownBy (w1.setCell ⟨Bn, 0, none⟩ (.string (r.extract k1 r.size))).drew (some Bn) := ⟨rfl, rfl, rfl, by simp, fun k hk hne => (grown_set w1 Bn 0 (.string (r.extract k1 r.size))).block k hk hne⟩
        have hj1 := hJ _ _ _ hj hgr
        have hb1 : (w1.setCell ⟨Bn, 0, none⟩ (.string (r.extract k1 r.size))).drew.heap[Bn]? = some (.cells #[.string (r.extract k1 r.size)] 9 (0, 0)) := heap_setCell_same w1 Bn 0 _ _ _ hb
        obtain ⟨fn, tmps, assign, body, hy, hR⟩ := hY pre (r.extract 0 k1) _ HNX.out hj1
        rw [hy]
        gi_wp2
        refine hR.mono ?_
        rintro e W3 (⟨rfl, hJ3, hk3⟩ | ⟨rfl, hJx3⟩)
        · have hb3 : W3.heap[Bn]? = some (.cells #[.string (r.extract k1 r.size)] 9 (0, 0)) := hk3.trans hb1
          gi_wp2
          go_roundw
          case rel => exact ⟨pre ++ [r.extract 0 k1], r.extract k1 r.size, hJ3, hb3, HRS.out, by have := HSZ.out; omega⟩
          case measure =>
            rw [leftB_eq (r := r.extract k1 r.size) (by rw [cell_of_row W3 Bn 0 _ _ _ hb3]; rfl), leftB_eq hc]
            exact HSZ.out
        · gi_wp2
          refine bodyPost_ret (results_none rfl _ _ _) rfl ?_
          exact ⟨⟨_, rfl⟩, .inr ⟨pre ++ [r.extract 0 k1], hJx3⟩⟩
      · have hx1 : x = -1 := by omega
        have hcut := cutB_none 10 r.data.toList (Lib.indexByte_none (by rw [← hx, hx1]))
        have hnx : nextL (restOf s.data.toList pre) = (r.data.toList, []) := by
          rw [← hr]
          unfold nextL
          rw [hcut, if_neg (by simp)]
        have HNX : Hid (NxL s.data.toList pre r) := ⟨hrne, by rw [hnx]⟩
        have HRS : Hid (([] : List UInt8) = restOf s.data.toList (pre ++ [r])) := by unfold Hid; rw [restOf_snoc HNX.out, hnx]
        subst hx1
        clear hx hr hr0 hge hcut hnx hrne h
        gi_wp2_with (refine ⟨trivial, ?_⟩; gi_at_call 36; refine (callsIn_wide.2 (HC.out _)).mono ?_; rintro e w1 ⟨rfl, rfl⟩)
        have hj1 : J pre (w1.setCell ⟨Bn, 0, none⟩ (.string ⟨#[]⟩)) := hJ _ _ _ hj (grown_set _ _ _ _)
        have hb1 : (w1.setCell ⟨Bn, 0, none⟩ (.string ⟨#[]⟩)).heap[Bn]? = some (.cells #[.string ⟨#[]⟩] 9 (0, 0)) := heap_setCell_same w1 Bn 0 _ _ _ hb
        obtain ⟨fn, tmps, assign, body, hy, hR⟩ := hY pre r _ HNX.out hj1
        rw [hy]
        gi_wp2
        refine hR.mono ?_
        rintro e W3 (⟨rfl, hJ3, hk3⟩ | ⟨rfl, hJx3⟩)
        · have hb3 : W3.heap[Bn]? = some (.cells #[.string ⟨#[]⟩] 9 (0, 0)) := hk3.trans hb1
          gi_wp2
          go_roundw
          case rel => exact ⟨pre ++ [r], ⟨#[]⟩, hJ3, hb3, HRS.out, by decide⟩
          case measure =>
            rw [leftB_eq (r := ⟨#[]⟩) (by rw [cell_of_row W3 Bn 0 _ _ _ hb3]; rfl), leftB_eq hc]
            show 0 < r.size
            omega
        · gi_wp2
          refine bodyPost_ret (results_none rfl _ _ _) rfl ?_
          exact ⟨⟨_, rfl⟩, .inr ⟨pre ++ [r], hJx3⟩⟩
end Go.Proofs.YtpphkdgjojnfeaaDoor
