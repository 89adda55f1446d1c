/-
  A nat of impl in memory: its cells, and what trim does to its count.
-/
import Derived.Test.YtmfpnbmfcoahbaaGreatDoorPkGood
import Derived.Deep.LoopGhost
import Derived.Deep.QuietTactic
import Derived.BigQuiet
import Derived.Laws.Rows
import Derived.Laws.Tables
import Derived.Deep.WholeRow
namespace Go.Proofs.YtmfpnbmfcoahbaaGreatDoor
open Go.RowKit
set_option linter.unusedVariables false

/-- The cells of a nat: the count, then the parts. -/
def natC (u : Int) (p : List Int) : Array Value := ((u :: p).map (Value.int .i64)).toArray

theorem natC_size (u : Int) (p : List Int) : (natC u p).size = p.length + 1 := by simp [natC]
theorem natC_0 (u : Int) (p : List Int) : (natC u p)[0]? = some (.int .i64 u) := by simp [natC]
theorem natC_s (u : Int) (p : List Int) (i : Nat) (h : i < p.length) : (natC u p)[1 + i]? = some (.int .i64 (p.getD i 0)) := by
  rw [Nat.add_comm]; simp [natC, List.getD, List.getElem?_eq_getElem h]
theorem natC_set0 (u v : Int) (p : List Int) : (natC u p).setIfInBounds 0 (.int .i64 v) = natC v p := by
  simp [natC]
theorem natC_setS (u v : Int) (p : List Int) (i : Nat) : (natC u p).setIfInBounds (1 + i) (.int .i64 v) = natC u (p.set i v) := by
  rw [Nat.add_comm]; simp [natC, List.map_set]
theorem natC_one (u : Int) (p : List Int) : (natC u p).all (·.oneCell') = true := by
  rw [Array.all_eq_true_iff_forall_mem]
  intro v hv
  simp [natC] at hv
  rcases hv with rfl | ⟨x, _, rfl⟩ <;> rfl

/-- The nat in block b. -/
def NatAt (w : World) (b : Nat) (u : Int) (p : List Int) : Prop := w.heap[b]? = some (.cells (natC u p) 32 (0, 0))

theorem NatAt.c0 {w : World} {b : Nat} {u : Int} {p : List Int} (h : NatAt w b u p) : w.cell? ⟨b, 0, none⟩ = some (.int .i64 u) := by
  rw [cell_of_row w b 0 _ _ _ h, natC_0]
theorem NatAt.cs {w : World} {b : Nat} {u : Int} {p : List Int} (h : NatAt w b u p) (i : Nat) (hi : i < p.length) : w.cell? ⟨b, 1 + i, none⟩ = some (.int .i64 (p.getD i 0)) := by
  rw [cell_of_row w b (1 + i) _ _ _ h, natC_s _ _ _ hi]
theorem NatAt.fr {w : World} {b : Nat} {u : Int} {p : List Int} (h : NatAt w b u p) (j : Nat) : w.frozen? ⟨b, j, none⟩ = false := frozen_of_row w b j _ _ h
theorem NatAt.set0 {w : World} {b : Nat} {u : Int} {p : List Int} (h : NatAt w b u p) (v : Int) : NatAt (w.setCell ⟨b, 0, none⟩ (.int .i64 v)) b v p := by
  unfold NatAt; rw [heap_setCell_same w b 0 _ _ _ h, natC_set0]
theorem NatAt.setS {w : World} {b : Nat} {u : Int} {p : List Int} (h : NatAt w b u p) (i : Nat) (v : Int) : NatAt (w.setCell ⟨b, 1 + i, none⟩ (.int .i64 v)) b u (p.set i v) := by
  unfold NatAt; rw [heap_setCell_same w b _ _ _ _ h, natC_setS]
theorem NatAt.lt {w : World} {b : Nat} {u : Int} {p : List Int} (h : NatAt w b u p) : b < w.heap.size := block_lt_of_cell (a := ⟨b, 0, none⟩) h.c0

/-- The count without the noughts ahead. -/
def trimTo (p : List Int) : Nat → Nat
  | 0 => 0
  | k + 1 => if p.getD k 0 = 0 then trimTo p k else k + 1

theorem size_setCell (w : World) (a : Addr) (v : Value) : (w.setCell a v).heap.size = w.heap.size := by simp [World.setCell]
theorem grownBy_set {w wr : World} {b : Nat} (h : w.grownBy wr (some b)) (o : Nat) (v : Value) : w.grownBy (wr.setCell ⟨b, o, none⟩ v) (some b) :=
  ⟨h.os, h.tape, h.output, by simp [World.setCell]; exact h.size, fun k hk hne => by
    rw [heap_setCell_other _ _ _ _ (by intro e; exact hne (by rw [e])), h.block k hk hne]⟩
theorem grownBy_drewN {w wr : World} {b : Option Nat} (h : w.grownBy wr b) (n : Nat) : w.grownBy (wr.drewN n) b := ⟨h.os, h.tape, h.output, h.size, h.block⟩

set_option maxHeartbeats 400000 in
theorem trim_any (b k : Nat) (p : List Int) (w : World) (hp : p.length = 204) (hk : k ≤ 204) (hb : NatAt w b k p) :
    Calls Tryz.prog 57 #[.pointer (some ⟨b, 0, none⟩)] w fun e w' => e = .returned (.tuple #[]) ∧ NatAt w' b (trimTo p k) p ∧ w.grownBy w' (some b) ∧ w'.heap.size = w.heap.size := by
  go_enter Tryz.func57, Tryz.ntmps57
  go_wp2
  go_loopg [] k (fun g wr => g ≤ 204 ∧ NatAt wr b g p ∧ Aside (trimTo p g = trimTo p k) ∧ w.grownBy wr (some b) ∧ Aside (wr.heap.size = w.heap.size))
  case atStart => exact ⟨hk, hb, rfl, ⟨rfl, rfl, rfl, Nat.le_refl _, fun _ _ _ => rfl⟩, rfl⟩
  case round =>
    obtain ⟨hg, hN, hT, hG, hS⟩ := hrel
    have H0 := hN.c0
    have HF := hN.fr 0
    cases gk with
    | zero =>
      go_wp2_with fail
      go_quiet (fail)
      go_wp2
      go_end0
      have hT' := hT.out
      exact ⟨rfl, by rw [← hT']; exact hN, grownBy_drewN hG _, hS.out⟩
    | succ j =>
      have H1 := hN.cs j (by omega)
      by_cases hz : p.getD j 0 = 0
      · rw [hz] at H1
        have hT' : Aside (trimTo p j = trimTo p k) := by
          unfold Aside; rw [← hT.out]; simp only [trimTo, if_pos hz]
        clear hz
        go_wp2_with fail
        go_quiet (fail)
        go_wp2
        go_roundg j
        case measure => omega
        case rel =>
          refine ⟨by omega, ?_, hT', grownBy_set (grownBy_drewN hG _) _ _, ?_⟩
          · exact NatAt.set0 (w := wr) hN (j : Int)
          · exact (size_setCell _ _ _).trans hS.out
      · have hz' : (p[j]?.getD 0 == 0) = false := by simpa using hz
        have hT' : Aside (trimTo p k = j + 1) := by
          unfold Aside; rw [← hT.out]; simp only [trimTo, if_neg hz]
        clear hz
        go_wp2_with fail
        go_quiet (fail)
        go_wp2
        go_end0
        exact ⟨rfl, by rw [hT'.out]; exact hN, grownBy_drewN hG _, hS.out⟩
end Go.Proofs.YtmfpnbmfcoahbaaGreatDoor
