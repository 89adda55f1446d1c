/-
  What treeOf makes of a node and its parts.
-/
import Derived.Test.YtgolfbjfopoeeaaDoorTermImpl
import Derived.Test.YtgolfbjfopoeeaaDoorRecs
import Derived.StillTailTactics
import Derived.Handy
namespace Go.Proofs.YtgolfbjfopoeeaaDoor
open Go.RowKit
set_option linter.unusedVariables false

/-- Pointers to trees, with how many nodes each has and how many are around each other. -/
def PtsAt (w : World) (v : Value) (ps : List (Nat × Nat × Nat)) : Prop :=
  ∃ o cap, v = .slice o ps.length cap ∧ (ps ≠ [] → ∃ g, o = some ⟨g, 0, none⟩ ∧ g < w.heap.size ∧ ∀ i p, ps[i]? = some p → w.cell? ⟨g, i, none⟩ = some (.pointer (some ⟨p.1, 0, none⟩))) ∧
    ∀ p ∈ ps, p.1 < w.heap.size ∧ w.cell? ⟨p.1, 4, none⟩ = some (.int .i64 (p.2.1 : Int)) ∧ w.cell? ⟨p.1, 5, none⟩ = some (.int .i64 (p.2.2 : Int))
theorem PtsAt.below {w w' : World} {v : Value} {ps : List (Nat × Nat × Nat)} (h : PtsAt w v ps) (hB : Below w.heap.size w w') : PtsAt w' v ps := by
  obtain ⟨o, cap, rfl, h1, h2⟩ := h
  refine ⟨o, cap, rfl, fun hn => ?_, fun p hp => ?_⟩
  · obtain ⟨g, e, hg, hc⟩ := h1 hn
    exact ⟨g, e, Nat.lt_of_lt_of_le hg hB.size, fun i p hi => by rw [hB.cell (p := ⟨g, i, none⟩) hg]; exact hc i p hi⟩
  · obtain ⟨a, b, c⟩ := h2 p hp
    exact ⟨Nat.lt_of_lt_of_le a hB.size, by rw [hB.cell (p := ⟨p.1, 4, none⟩) a]; exact b, by rw [hB.cell (p := ⟨p.1, 5, none⟩) a]; exact c⟩
def szP (ps : List (Nat × Nat × Nat)) : Nat := ps.foldl (fun a p => a + p.2.1) 1
def dpP (ps : List (Nat × Nat × Nat)) : Nat := ps.foldl (fun a p => max a (p.2.2 + 1)) 1
theorem szP_succ (ps : List (Nat × Nat × Nat)) (j : Nat) (p : Nat × Nat × Nat) (h : ps[j]? = some p) : szP (ps.take (j + 1)) = szP (ps.take j) + p.2.1 := by
  have hj := (List.getElem?_eq_some_iff.1 h).1
  have he : ps[j] = p := (List.getElem?_eq_some_iff.1 h).2
  unfold szP
  rw [List.take_succ_eq_append_getElem hj, List.foldl_append, he]; rfl
theorem dpP_succ (ps : List (Nat × Nat × Nat)) (j : Nat) (p : Nat × Nat × Nat) (h : ps[j]? = some p) : dpP (ps.take (j + 1)) = max (dpP (ps.take j)) (p.2.2 + 1) := by
  have hj := (List.getElem?_eq_some_iff.1 h).1
  have he : ps[j] = p := (List.getElem?_eq_some_iff.1 h).2
  unfold dpP
  rw [List.take_succ_eq_append_getElem hj, List.foldl_append, he]; rfl
theorem szP_le (K : Nat) (ps : List (Nat × Nat × Nat)) (hp : ∀ p ∈ ps, p.2.1 ≤ K ∧ p.2.2 ≤ K) : ∀ j, szP (ps.take j) ≤ 1 + j * K ∧ dpP (ps.take j) ≤ 1 + K := by
  intro j
  induction j with
  | zero => simp [szP, dpP]
  | succ j ih =>
    cases h : ps[j]? with
    | none =>
      have hl := List.getElem?_eq_none_iff.1 h
      rw [List.take_of_length_le (by omega)]
      rw [List.take_of_length_le hl] at ih
      rw [Nat.add_mul]
      omega
    | some p =>
      have := hp p (List.mem_of_getElem? h)
      rw [szP_succ ps j p h, dpP_succ ps j p h, Nat.add_mul]
      omega
theorem szP_le2 (ps : List (Nat × Nat × Nat)) (hp : ∀ p ∈ ps, p.2.1 ≤ 1000000 ∧ p.2.2 ≤ 1000000) (j : Nat) (hj : j ≤ 2) : szP (ps.take j) ≤ 2000001 ∧ dpP (ps.take j) ≤ 1000001 := by
  have h := szP_le 1000000 ps hp j
  have h2 : j * 1000000 ≤ 2 * 1000000 := Nat.mul_le_mul_right _ hj
  exact ⟨Nat.le_trans h.1 (by omega), by omega⟩
def treeC (k n u : Int) (v : Value) (s d : Nat) : Array Value := #[.int .i64 k, .int .i64 n, .int .i64 u, v, .int .i64 (s : Int), .int .i64 (d : Int)]
theorem zero_tree : (∀ w, (zeroValue 95).run Tryd.prog w = .ok (.agg #[.int .i64 0, .int .i64 0, .int .i64 0, .slice none 0 0, .int .i64 0, .int .i64 0]) w) ∧ (Tryd.prog.info? 95).map (·.size) = some 6 := zero_of_info (by kernel_rfl)

theorem one_i64 : (Tryd.prog.info? 3).map (·.size) = some 1 := by kernel_rfl
theorem RowAt.drawn {w : World} {b : Nat} {t : TypeId} {cs : Array Value} (h : RowAt w b t cs) : RowAt w.drew b t cs := h
/-- A new tree. -/
def TreeNew (w : World) (k n u : Int) (v : Value) (s d : Nat) (e : Ending) (w' : World) : Prop := ∃ b, e = .returned (.pointer (some ⟨b, 0, none⟩)) ∧ w.heap.size ≤ b ∧ RowAt w' b 95 (treeC k n u v s d) ∧ Below w.heap.size w w'

set_option maxHeartbeats 4000000 in
set_option maxRecDepth 100000 in
theorem treeOf_any (k n u : Int) (v : Value) (ps : List (Nat × Nat × Nat)) (w : World) (hP : PtsAt w v ps) (h2 : ps.length ≤ 2) (hp : ∀ p ∈ ps, p.2.1 ≤ 1000000 ∧ p.2.2 ≤ 1000000) :
    Calls Tryd.prog 73 #[.agg #[.int .i64 k, .int .i64 n, .int .i64 u], v] w fun e w' => TreeNew w k n u v (szP ps) (dpP ps) e w' := by
  have HP := hideT' hP
  obtain ⟨o, cap, rfl, _⟩ := hP
  have hz := zero_tree.1
  have hzt := zero_term.1
  have HPP := hideT' hp
  have HS := hideT' (szP_le2 ps hp)
  obtain ⟨m, hm⟩ : ∃ m, m = ps.length := ⟨_, rfl⟩
  rw [← hm] at h2 ⊢
  have HM := hideT' hm
  clear hp hm
  go_enter Tryd.func73, Tryd.ntmps73
  go_wp2_with fail
  go_loopg [14] m (fun g i wr => ∃ j : Nat, g = m - j ∧ j ≤ m ∧ i = .int .i64 (j : Int) ∧ RowAt wr (w.heap.size + 1) 95 (treeC k n u (.slice o m cap) (szP (ps.take j)) (dpP (ps.take j))) ∧ Below w.heap.size w wr)
  case atStart => exact ⟨0, rfl, by omega, by go_num, RowAt.new (w.alloc (.cells #[.int .i64 k, .int .i64 n, .int .i64 u] 51)) _ _ |> fun h => by simpa [treeC, szP, dpP] using h, ((Below.refl _ _).alloc (Nat.le_refl _) _).alloc (by simp) _⟩
  case round =>
    obtain ⟨j, hg, hj, rfl, hR, hB⟩ := hrel
    by_cases hlt : (j : Int) < (m : Int)
    · have hjm : j < m := by omega
      obtain ⟨o', cap', e, hrow, hall⟩ := HP.out.below hB
      cases e
      obtain ⟨p, hpj⟩ : ∃ p, ps[j]? = some p := ⟨ps[j]'(by rw [← HM.out]; exact hjm), by rw [List.getElem?_eq_getElem]⟩
      obtain ⟨g0, rfl, hg0, hcell⟩ := hrow (by rintro rfl; simp at hpj)
      have hc := hcell j p hpj
      obtain ⟨hpb, hp4, hp5⟩ := hall p (List.mem_of_getElem? hpj)
      have HPB : Hid (p.1 < w.heap.size) := by
        obtain ⟨_, _, _, _, h⟩ := HP.out
        exact (h p (List.mem_of_getElem? hpj)).1
      have hpl := HPP.out p (List.mem_of_getElem? hpj)
      have hsl := HS.out j (by omega)
      have HSS := hideT' (szP_succ ps j p hpj)
      have HDS := hideT' (dpP_succ ps j p hpj)
      obtain ⟨S, hS⟩ : ∃ S, S = szP (ps.take j) := ⟨_, rfl⟩
      obtain ⟨D, hD⟩ : ∃ D, D = dpP (ps.take j) := ⟨_, rfl⟩
      rw [← hS, ← hD] at hR hsl
      have HSD := hideT' (And.intro hS hD)
      obtain ⟨pb, s, d⟩ := p
      simp only at hc hp4 hp5 hpl hpb
      have hw1 : IntKind.i64.wrap ((S : Int) + (s : Int)) = ((S + s : Nat) : Int) := by rw [IntKind.wrap_i64]; omega
      have hw2 : IntKind.i64.wrap ((d : Int) + 1) = ((d + 1 : Nat) : Int) := by rw [IntKind.wrap_i64]; omega
      have HB := hideT' hB
      have hr4 : wr.cell? ⟨w.heap.size + 1, 4, none⟩ = some (.int .i64 (S : Int)) := by rw [cell_of_row _ _ _ _ _ _ hR]; rfl
      have HR := hideT' hR
      clear hS hD hrow hall hcell hB hR
      go_wp2_with fail
      refine wp_region_still_tail 11 (by kernel_rfl) (by kernel_rfl) ?_
      simp only [List.take_succ_cons, List.take_zero, List.drop_succ_cons, List.drop_zero]
      repeat still_step
      refine wpStill_nil ?_
      refine store_at rfl 3 _ _ rfl rfl (w.heap.size + 1) 4 (.int .i64 ((S : Int) + (s : Int))) rfl rfl one_i64 rfl 95 _ (RowAt.drawn HR.out) (show 4 < 6 by omega) ?_
      intro w4 hR4 hg4 hs4
      have hR4' : RowAt w4 (w.heap.size + 1) 95 (treeC k n u (.slice (some ⟨g0, 0, none⟩) m cap) (S + s) D) := by simpa [treeC] using hR4
      have HB4 : Hid (Below w.heap.size w w4) := HB.out.drew.grown hg4 (by have := HB.out.size; simpa using this) (by intro k hk; cases hk; omega)
      have hq5 : w4.cell? ⟨pb, 5, none⟩ = some (.int .i64 (d : Int)) := by rw [HB4.out.cell (p := ⟨pb, 5, none⟩) HPB.out, ← HB.out.cell (p := ⟨pb, 5, none⟩) HPB.out]; exact hp5
      have hr5 : w4.cell? ⟨w.heap.size + 1, 5, none⟩ = some (.int .i64 (D : Int)) := by rw [cell_of_row _ _ _ _ _ _ hR4']; rfl
      have HR4 := hideT' hR4'
      have HS4 : Hid (w4.heap.size = wr.heap.size) := hs4
      clear hR4 hg4 hs4 hR4' hp5 hp4 hr4 hc
      rcases Int.lt_or_le (D : Int) ((d : Int) + 1) with hDd | hDd
      all_goals (
        go_wp2_with fail
        refine wp_region_still_tail 13 (by kernel_rfl) (by kernel_rfl) ?_
        simp only [List.take_succ_cons, List.take_zero, List.drop_succ_cons, List.drop_zero]
        repeat still_step
        refine wpStill_nil ?_
        refine store_at rfl 3 _ _ rfl rfl (w.heap.size + 1) 5 (.int .i64 ((max D (d + 1) : Nat) : Int)) rfl (congrArg (Value.int .i64) (by show (_ : Int) = _; omega)) one_i64 rfl 95 _ (RowAt.drawn HR4.out) (show 5 < 6 by omega) ?_
        intro w6 hR6 hg6 hs6
        have HR6 : Hid (RowAt w6 (w.heap.size + 1) 95 (treeC k n u (.slice (some ⟨g0, 0, none⟩) m cap) (S + s) (max D (d + 1)))) := by unfold Hid; simpa [treeC] using hR6
        have HB6 : Hid (Below w.heap.size w w6) := HB4.out.drew.grown hg6 (by have := HB4.out.size; simpa using this) (by intro k hk; cases hk; omega)
        clear hR6 hg6 hs6
        go_wp2
        go_roundg (m - (j + 1))
        case measure => omega
        case rel =>
          refine ⟨j + 1, rfl, by omega, by go_num, ?_, HB6.out⟩
          rw [HSS.out, HDS.out, ← HSD.out.1, ← HSD.out.2]
          exact HR6.out)
    · have hR2 : RowAt wr (w.heap.size + 1) 95 (treeC k n u (.slice o m cap) (szP ps) (dpP ps)) := by
        rw [List.take_of_length_le (by rw [← HM.out]; omega)] at hR
        exact hR
      have HR := hideT' (And.intro hR2 hB)
      clear hR hB hR2
      go_wp2
      go_ret
      exact ⟨w.heap.size + 1, rfl, by omega, HR.out.1, HR.out.2⟩
end Go.Proofs.YtgolfbjfopoeeaaDoor
