/-
  What spec.DrawCompareNat, DrawAddNat, DrawToRadix draw.
-/
import Derived.Test.YtmfpnbmfcoahbaaGreatDoorDrawNat
namespace Go.Proofs.YtmfpnbmfcoahbaaGreatDoor
open Go.RowKit
set_option linter.unusedVariables false

/-- A new cursor over bytes that came in. -/
theorem cur_new {w : World} {v : Value} {l : List Int} (hC : Code w v l) : CurAt (w.alloc (.cells #[v, .int .i64 0, .int .u64 0] 56)) w.heap.size v 0 ∧ CodeAt (w.alloc (.cells #[v, .int .i64 0, .int .u64 0] 56)) w.heap.size v l := by
  refine ⟨⟨0, 0, Nat.le_refl _, by omega, RowAt.new w _ _⟩, ⟨hC.1.below ((Below.refl _ _).alloc (Nat.le_refl _) _), hC.2.1, hC.2.2⟩, ?_⟩
  intro a n c hv hl
  rcases hC.1 with ⟨h, h2⟩ | ⟨a', cp, h, _, hb⟩
  · rw [h2] at hl; simp at hl
  · rw [h] at hv; cases hv; have := hb hl; omega
theorem cur_below {w w' : World} {v : Value} (hg : (w.alloc (.cells #[v, .int .i64 0, .int .u64 0] 56)).grownBy w' (some w.heap.size)) : Below w.heap.size w w' :=
  ((Below.refl w.heap.size w).alloc (Nat.le_refl _) _).grown hg (by simp) (by intro k hk; cases hk; omega)

set_option maxHeartbeats 1000000 in
set_option maxRecDepth 100000 in
theorem drawCompareNat_any (v : Value) (l : List Int) (w : World) (hC : Code w v l) :
    Calls Tryz.prog 10 #[v] w fun e w' => (∃ s t : ByteArray, e = .returned (.tuple #[.string s, .string t]) ∧ s.size ≤ 1000 ∧ t.size ≤ 1000) ∧ Below w.heap.size w w' := by
  obtain ⟨hc0, hC0⟩ := cur_new hC
  have HC := hideT' (And.intro hc0 hC0)
  obtain ⟨o, cap, rfl⟩ := hC.1.len
  clear hC hc0 hC0
  go_enter Tryz.func10, Tryz.ntmps10
  go_wp2_with fail
  refine (natDraw_any w.heap.size _ l 0 _ HC.out.1 HC.out.2 (by omega)).mono ?_
  rintro e w1 ⟨⟨s, rfl, hs⟩, hc1, hg1⟩
  have HC1 := hideT' (And.intro hc1 (And.intro (HC.out.2.grown hg1) hg1))
  clear hc1 hg1
  go_wp2_with fail
  refine (one_any 6 (by omega) (by omega) w.heap.size _ l (0 + 1000) w1 HC1.out.1 HC1.out.2.1 (by omega)).mono ?_
  rintro e w2 ⟨⟨q, rfl⟩, hc2, hg2⟩
  have HC2 := hideT' (And.intro hc2 (And.intro (HC1.out.2.1.grown hg2) (HC1.out.2.2.trans hg2)))
  clear hc2 hg2
  cases q with
  | true =>
    have HB := hideT' (cur_below HC2.out.2.2)
    go_wp2
    go_ret2
    exact ⟨⟨s, s, rfl, hs, hs⟩, HB.out⟩
  | false =>
    go_wp2_with fail
    refine (natDraw_any w.heap.size _ l (0 + 1000 + 2) w2 HC2.out.1 HC2.out.2.1 (by omega)).mono ?_
    rintro e w3 ⟨⟨t, rfl, ht⟩, hc3, hg3⟩
    have HB := hideT' (cur_below (HC2.out.2.2.trans hg3))
    clear hc3 hg3
    go_wp2
    go_ret2
    exact ⟨⟨s, t, rfl, hs, ht⟩, HB.out⟩

/-- Some numbers in a row. -/
def Ints (w : World) (q : Nat) (ns : List Int) : Prop := ∀ i, i < ns.length → w.cell? ⟨q, i, none⟩ = some (.int .i64 (ns.getD i 0))
theorem ints_new (w : World) (ns : List Int) : Ints (w.alloc (.cells (ns.map (Value.int .i64)).toArray 3)) w.heap.size ns := by
  intro i hi
  rw [cell_of_row _ w.heap.size i _ _ _ (RowAt.new w 3 (ns.map (Value.int .i64)).toArray)]
  simp [hi]
end Go.Proofs.YtmfpnbmfcoahbaaGreatDoor
