/-
  What spec.DrawSqrtNat draws.
-/
import Derived.Test.YtmfpnbmfcoahbaaDoorDrawNats
import Derived.Test.YtmfpnbmfcoahbaaDoorPkSpecMul
namespace Go.Proofs.YtmfpnbmfcoahbaaDoor
open Go.RowKit
set_option linter.unusedVariables false

theorem rt_small {s : ByteArray} (h : s.size ≤ 1000) : s.size ≤ maxLen := by unfold maxLen; omega
theorem ans_small {g : Bool} {n : Nat} {p : ByteArray} {o : Bool} (h : Ans g n (.returned (.tuple #[.string p, .bool o]))) : p.size ≤ 1000 := by
  rcases h with ⟨_, s, he, h1, h2⟩ | ⟨_, he⟩
  · simp only [Ending.returned.injEq, Value.tuple.injEq, Array.mk.injEq, List.cons.injEq, Value.string.injEq, Value.bool.injEq, and_true] at he
    obtain ⟨e1, _⟩ := he
    subst e1
    by_cases hn : n < 10 ^ 600
    · obtain ⟨c, v⟩ := h1 hn
      have := canon_size (k := 600) (by decide) c v hn
      omega
    · rw [h2 hn]; decide
  · simp only [Mute, Ending.returned.injEq, Value.tuple.injEq, Array.mk.injEq, List.cons.injEq, Value.string.injEq, Value.bool.injEq, and_true] at he
    rw [he.1]; decide

set_option maxHeartbeats 2000000 in
set_option maxRecDepth 100000 in
theorem drawSqrt_any (v : Value) (l : List Int) (w : World) (hC : Code w v l) :
    Calls Tryd.prog 6 #[v] w fun e w' => (∃ s : ByteArray, e = .returned (.string s) ∧ s.size ≤ 1000) ∧ Below w.heap.size w w' := by
  obtain ⟨hc0, hC0⟩ := cur_new hC
  have HC := hideT' (And.intro hc0 hC0)
  obtain ⟨o, cap, rfl⟩ := hC.1.len
  clear hC hc0 hC0
  go_enter Tryd.func6, Tryd.ntmps6
  go_wp2_with fail
  refine (natDraw_any w.heap.size _ l 0 _ HC.out.1 HC.out.2 (by omega)).mono ?_
  rintro e w1 ⟨⟨s, rfl, hs⟩, hc1, hg1⟩
  have HC1 := hideT' (And.intro hc1 (And.intro (HC.out.2.grown hg1) hg1))
  clear hc1 hg1
  go_wp2_with fail
  refine (specMul_any s s w1 (rt_small hs) (rt_small hs)).mono ?_
  rintro e w2 ⟨hA, hB2⟩
  have hA' := hA
  obtain ⟨p, ok, he, _⟩ := hA.same hA'
  subst he
  have hp := ans_small hA'
  have HC2 := hideT' (And.intro (HC1.out.1.grown (below_grow hB2 none) (by simp)) (And.intro (HC1.out.2.1.grown (below_grow hB2 (some w.heap.size))) (HC1.out.2.2.trans (below_grow hB2 (some w.heap.size)))))
  clear hA hA' hB2
  cases ok with
  | false =>
    have HB := hideT' (cur_below HC2.out.2.2)
    go_wp2
    go_ret
    exact ⟨⟨s, rfl, hs⟩, HB.out⟩
  | true =>
    go_wp2_with fail
    refine (one_any 3 (by omega) (by omega) w.heap.size _ l (0 + 1000) w2 HC2.out.1 HC2.out.2.1 (by omega)).mono ?_
    rintro e w3 ⟨⟨q, rfl⟩, hc3, hg3⟩
    have HB := hideT' (cur_below (HC2.out.2.2.trans hg3))
    clear hc3 hg3
    cases q with
    | true =>
      go_wp2
      go_ret
      exact ⟨⟨p, rfl, hp⟩, HB.out⟩
    | false =>
      go_wp2
      go_ret
      exact ⟨⟨s, rfl, hs⟩, HB.out⟩
end Go.Proofs.YtmfpnbmfcoahbaaDoor
