/-
  What spec.DrawCompareNat, DrawAddNat, DrawToRadix draw.
-/
import Derived.Test.YtnlegofckpbncaaDoorDrawNat
namespace Go.Proofs.YtnlegofckpbncaaDoor
open Go.RowKit
set_option linter.unusedVariables false

/-- A new cursor over bytes that came in. -/
theorem cur_new {w : World} {v : Value} {l : List Int} (hC : Code w v l) : CurAt (w.alloc (.cells #[v, .int .i64 0, .int .u64 0] 54)) w.heap.size v 0 ∧ CodeAt (w.alloc (.cells #[v, .int .i64 0, .int .u64 0] 54)) w.heap.size v l := by
  refine ⟨⟨0, 0, Nat.le_refl _, by omega, RowAt.new w _ _⟩, ⟨hC.1.below ((Below.refl _ _).alloc (Nat.le_refl _) _), hC.2.1, hC.2.2⟩, ?_⟩
  intro a n c hv hl
  rcases hC.1 with ⟨h, h2⟩ | ⟨a', cp, h, _, hb⟩
  · rw [h2] at hl; simp at hl
  · rw [h] at hv; cases hv; have := hb hl; omega
theorem cur_below {w w' : World} {v : Value} (hg : (w.alloc (.cells #[v, .int .i64 0, .int .u64 0] 54)).grownBy w' (some w.heap.size)) : Below w.heap.size w w' :=
  ((Below.refl w.heap.size w).alloc (Nat.le_refl _) _).grown hg (by simp) (by intro k hk; cases hk; omega)

set_option maxHeartbeats 1000000 in
set_option maxRecDepth 100000 in
theorem drawCompareNat_any (v : Value) (l : List Int) (w : World) (hC : Code w v l) :
    Calls Tryd.prog 17 #[v] w fun e w' => (∃ s t : ByteArray, e = .returned (.tuple #[.string s, .string t]) ∧ s.size ≤ 1000 ∧ t.size ≤ 1000) ∧ Below w.heap.size w w' := by
  obtain ⟨hc0, hC0⟩ := cur_new hC
  have HC := hideT' (And.intro hc0 hC0)
  obtain ⟨o, cap, rfl⟩ := hC.1.len
  clear hC hc0 hC0
  go_enter Tryd.func17, Tryd.ntmps17
  go_wp2_with fail
  refine (natDraw_any w.heap.size _ l 0 _ HC.out.1 HC.out.2 (by omega)).mono ?_
  rintro e w1 ⟨⟨s, rfl, hs⟩, hc1, hg1⟩
  have HC1 := hideT' (And.intro hc1 (And.intro (HC.out.2.grown hg1) hg1))
  clear hc1 hg1
  go_wp2_with fail
  refine (one_any 6 (by omega) (by omega) w.heap.size _ l (0 + 1000) w1 HC1.out.1 HC1.out.2.1 (by omega)).mono ?_
  rintro e w2 ⟨⟨q, rfl⟩, hc2, hg2⟩
  have HC2 := hideT' (And.intro hc2 (And.intro (HC1.out.2.1.grown hg2) (HC1.out.2.2.trans hg2)))
  clear hc2 hg2
  cases q with
  | true =>
    have HB := hideT' (cur_below HC2.out.2.2)
    go_wp2
    go_ret2
    exact ⟨⟨s, s, rfl, hs, hs⟩, HB.out⟩
  | false =>
    go_wp2_with fail
    refine (natDraw_any w.heap.size _ l (0 + 1000 + 2) w2 HC2.out.1 HC2.out.2.1 (by omega)).mono ?_
    rintro e w3 ⟨⟨t, rfl, ht⟩, hc3, hg3⟩
    have HB := hideT' (cur_below (HC2.out.2.2.trans hg3))
    clear hc3 hg3
    go_wp2
    go_ret2
    exact ⟨⟨s, t, rfl, hs, ht⟩, HB.out⟩

set_option maxHeartbeats 1000000 in
set_option maxRecDepth 100000 in
theorem drawAddNat_any (v : Value) (l : List Int) (w : World) (hC : Code w v l) :
    Calls Tryd.prog 4 #[v] w fun e w' => (∃ s t : ByteArray, e = .returned (.tuple #[.string s, .string t]) ∧ s.size ≤ 1000 ∧ t.size ≤ 1000) ∧ Below w.heap.size w w' := by
  have HC := hideT' hC
  clear hC
  go_enter Tryd.func4, Tryd.ntmps4
  go_wp2_with fail
  refine (drawCompareNat_any v l w HC.out).mono ?_
  rintro e w1 ⟨⟨s, t, rfl, hs, ht⟩, hB⟩
  go_wp2
  go_ret2
  exact ⟨⟨s, t, rfl, hs, ht⟩, hB⟩

/-- Some numbers in a row. -/
def Ints (w : World) (q : Nat) (ns : List Int) : Prop := ∀ i, i < ns.length → w.cell? ⟨q, i, none⟩ = some (.int .i64 (ns.getD i 0))
theorem ints_new (w : World) (ns : List Int) : Ints (w.alloc (.cells (ns.map (Value.int .i64)).toArray 3)) w.heap.size ns := by
  intro i hi
  rw [cell_of_row _ w.heap.size i _ _ _ (RowAt.new w 3 (ns.map (Value.int .i64)).toArray)]
  simp [hi]
set_option maxHeartbeats 1000000 in
set_option maxRecDepth 100000 in
theorem among_any (q c : Nat) (ns : List Int) (h1 : 1 ≤ ns.length) (h2 : ns.length ≤ 65536) (b : Nat) (v : Value) (l : List Int) (N : Nat) (w : World) (hc : CurAt w b v N) (hC : CodeAt w b v l) (hN : N + 1 ≤ 1099511627776) (hT : Ints w q ns) (hq : q ≠ b) (hql : q < w.heap.size) :
    Calls Tryd.prog 32 #[.pointer (some ⟨b, 0, none⟩), .slice (some ⟨q, 0, none⟩) ns.length c] w fun e w' => (∃ n : Int, e = .returned (.int .i64 n) ∧ n ∈ ns) ∧ CurAt w' b v (N + 2) ∧ w.grownBy w' (some b) := by
  have HC := hideT' (And.intro hc (And.intro hC hT))
  clear hc hC hT
  go_enter Tryd.func32, Tryd.ntmps32
  go_wp2_with fail
  refine (pick_any ns.length h1 h2 b v l N w HC.out.1 HC.out.2.1 hN).mono ?_
  rintro e w1 ⟨⟨x, rfl, hx⟩, hc1, hg1⟩
  have hs := HC.out.2.2 x hx
  have hm : ns.getD x 0 ∈ ns := by rw [List.getD_eq_getElem?_getD, List.getElem?_eq_getElem hx]; exact List.getElem_mem hx
  obtain ⟨n, hn⟩ : ∃ n, n = ns.getD x 0 := ⟨_, rfl⟩
  rw [← hn] at hs hm
  have hcell : w1.cell? ⟨q, x, none⟩ = some (.int .i64 n) := by rw [hg1.cell_far ⟨q, x, none⟩ hql (by intro e; exact hq (by simpa using e))]; exact hs
  have hxl : (x : Int) < (ns.length : Int) := by omega
  have HC1 := hideT' (And.intro hc1 hg1)
  clear hc1 hg1 hs hn
  go_wp2
  go_ret
  exact ⟨⟨n, rfl, hm⟩, HC1.out.1, HC1.out.2⟩

set_option maxHeartbeats 1000000 in
set_option maxRecDepth 100000 in
theorem drawToRadix_any (v : Value) (l : List Int) (w : World) (hC : Code w v l) :
    Calls Tryd.prog 13 #[v] w fun e w' => (∃ (s : ByteArray) (n : Int), e = .returned (.tuple #[.string s, .int .i64 n]) ∧ s.size ≤ 1000 ∧ n ∈ [(2 : Int), 8, 10, 16, 16, 3]) ∧ Below w.heap.size w w' := by
  obtain ⟨hc0, hC0⟩ := cur_new hC
  have HC := hideT' (And.intro hc0 hC0)
  obtain ⟨o, cap, rfl⟩ := hC.1.len
  clear hC hc0 hC0
  go_enter Tryd.func13, Tryd.ntmps13
  go_wp2_with fail
  refine (natDraw_any w.heap.size _ l 0 _ HC.out.1 HC.out.2 (by omega)).mono ?_
  rintro e w1 ⟨⟨s, rfl, hs⟩, hc1, hg1⟩
  have HC1 := hideT' (And.intro hc1 (And.intro (HC.out.2.grown hg1) hg1))
  have hbl : w.heap.size < w1.heap.size := hc1.lt
  clear hc1 hg1
  go_wp2_with fail
  have HT := hideT' (ints_new w1 [2, 8, 10, 16, 16, 3])
  have hag := alloc_grown w1 (.cells #[.int .i64 2, .int .i64 8, .int .i64 10, .int .i64 16, .int .i64 16, .int .i64 3] 3)
  refine (among_any w1.heap.size 6 [2, 8, 10, 16, 16, 3] (by simp) (by simp) w.heap.size _ l (0 + 1000) _ (HC1.out.1.grown (hag none) (by simp)) (HC1.out.2.1.grown (hag (some w.heap.size))) (by omega) HT.out (by omega) (by simp)).mono ?_
  rintro e w2 ⟨⟨n, rfl, hn⟩, hc2, hg2⟩
  have HB := hideT' (cur_below (HC1.out.2.2.trans ((hag (some w.heap.size)).trans hg2)))
  have HNN := hideT' hn
  clear hc2 hg2 hn
  go_wp2
  go_ret2
  exact ⟨⟨s, n, rfl, hs, HNN.out⟩, HB.out⟩
end Go.Proofs.YtnlegofckpbncaaDoor
