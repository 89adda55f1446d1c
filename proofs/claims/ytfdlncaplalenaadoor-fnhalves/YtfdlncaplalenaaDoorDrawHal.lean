/-
  What spec.DrawMulByHalves draws.
-/
import Derived.Test.YtfdlncaplalenaaDoorDrawNats
namespace Go.Proofs.YtfdlncaplalenaaDoor
open Go.RowKit
set_option linter.unusedVariables false

set_option maxHeartbeats 2000000 in
set_option maxRecDepth 100000 in
theorem drawHal_any (v : Value) (l : List Int) (w : World) (hC : Code w v l) :
    Calls Tryd.prog 4 #[v] w fun e w' => (∃ (s t : ByteArray) (n : Int), e = .returned (.tuple #[.string s, .string t, .int .i64 n]) ∧ s.size ≤ 1000 ∧ t.size ≤ 1000) ∧ Below w.heap.size w w' := by
  obtain ⟨hc0, hC0⟩ := cur_new hC
  have HC := hideT' (And.intro hc0 hC0)
  obtain ⟨o, cap, rfl⟩ := hC.1.len
  clear hC hc0 hC0
  go_enter Tryd.func4, Tryd.ntmps4
  go_wp2_with fail
  refine (pick_any 8 (by omega) (by omega) w.heap.size _ l 0 _ HC.out.1 HC.out.2 (by omega)).mono ?_
  rintro e w1 ⟨⟨x, rfl, hx⟩, hc1, hg1⟩
  have HC1 := hideT' (And.intro hc1 (And.intro (HC.out.2.grown hg1) hg1))
  obtain ⟨y, hy⟩ : ∃ y : Nat, (1 : Int) + (x : Int) = (y : Int) := ⟨1 + x, by omega⟩
  have hw : IntKind.i64.wrap ((1 : Int) + (x : Int)) = (y : Int) := by rw [IntKind.wrap_i64]; omega
  clear hc1 hg1 hy
  go_wp2_with fail
  refine (one_any 20 (by omega) (by omega) w.heap.size _ l (0 + 2) w1 HC1.out.1 HC1.out.2.1 (by omega)).mono ?_
  rintro e w2 ⟨⟨q, rfl⟩, hc2, hg2⟩
  have HC2 := hideT' (And.intro hc2 (And.intro (HC1.out.2.1.grown hg2) (HC1.out.2.2.trans hg2)))
  have hbl : w.heap.size < w2.heap.size := hc2.lt
  clear hc2 hg2
  cases q with
  | false =>
    go_wp2_with fail
    refine (natDraw_any w.heap.size _ l (0 + 2 + 2) w2 HC2.out.1 HC2.out.2.1 (by omega)).mono ?_
    rintro e w3 ⟨⟨s, rfl, hs⟩, hc3, hg3⟩
    have HC3 := hideT' (And.intro hc3 (And.intro (HC2.out.2.1.grown hg3) (HC2.out.2.2.trans hg3)))
    clear hc3 hg3
    go_wp2_with fail
    refine (natDraw_any w.heap.size _ l (0 + 2 + 2 + 1000) w3 HC3.out.1 HC3.out.2.1 (by omega)).mono ?_
    rintro e w4 ⟨⟨t, rfl, ht⟩, hc4, hg4⟩
    have HB := hideT' (cur_below (HC3.out.2.2.trans hg4))
    clear hc4 hg4
    go_wp2
    go_ret3
    exact ⟨⟨s, t, _, rfl, hs, ht⟩, HB.out⟩
  | true =>
    go_wp2_with fail
    have HT := hideT' (ints_new w2 [0, 100, 101])
    have hag := alloc_grown w2 (.cells #[.int .i64 0, .int .i64 100, .int .i64 101] 3)
    refine (among_any w2.heap.size 3 [0, 100, 101] (by simp) (by simp) w.heap.size _ l (0 + 2 + 2) _ (HC2.out.1.grown (hag none) (by simp)) (HC2.out.2.1.grown (hag (some w.heap.size))) (by omega) HT.out (by omega) (by simp)).mono ?_
    rintro e w3 ⟨⟨n, rfl, hn⟩, hc3, hg3⟩
    have HC3 := hideT' (And.intro hc3 (And.intro ((HC2.out.2.1.grown (hag (some w.heap.size))).grown hg3) (HC2.out.2.2.trans ((hag (some w.heap.size)).trans hg3))))
    clear hc3 hg3 hn hag
    go_wp2_with fail
    refine (natDraw_any w.heap.size _ l (0 + 2 + 2 + 2) w3 HC3.out.1 HC3.out.2.1 (by omega)).mono ?_
    rintro e w4 ⟨⟨s, rfl, hs⟩, hc4, hg4⟩
    have HC4 := hideT' (And.intro hc4 (And.intro (HC3.out.2.1.grown hg4) (HC3.out.2.2.trans hg4)))
    clear hc4 hg4
    go_wp2_with fail
    refine (natDraw_any w.heap.size _ l (0 + 2 + 2 + 2 + 1000) w4 HC4.out.1 HC4.out.2.1 (by omega)).mono ?_
    rintro e w5 ⟨⟨t, rfl, ht⟩, hc5, hg5⟩
    have HB := hideT' (cur_below (HC4.out.2.2.trans hg5))
    clear hc5 hg5
    go_wp2
    go_ret3
    exact ⟨⟨s, t, _, rfl, hs, ht⟩, HB.out⟩
end Go.Proofs.YtfdlncaplalenaaDoor
