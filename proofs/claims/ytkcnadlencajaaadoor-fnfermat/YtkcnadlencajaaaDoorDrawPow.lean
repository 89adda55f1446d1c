/-
  What spec.DrawPowModNat draws, and what laws.numberOf answers.
-/
import Derived.Test.YtkcnadlencajaaaDoorDrawNats
import Derived.Test.YtkcnadlencajaaaDoorNum
namespace Go.Proofs.YtkcnadlencajaaaDoor
open Go.RowKit
set_option linter.unusedVariables false

set_option maxHeartbeats 1000000 in
set_option maxRecDepth 100000 in
theorem smallDraw_any (b : Nat) (v : Value) (l : List Int) (N : Nat) (w : World) (hc : CurAt w b v N) (hC : CodeAt w b v l) (hN : N + 2 ≤ 1099511627776) :
    Calls Tryd.prog 84 #[.pointer (some ⟨b, 0, none⟩)] w fun e w' => (∃ s : ByteArray, e = .returned (.string s) ∧ s.size ≤ 9) ∧ CurAt w' b v (N + 2) ∧ w.grownBy w' (some b) := by
  have HC := hideT' (And.intro hc hC)
  clear hc hC
  go_enter Tryd.func84, Tryd.ntmps84
  go_wp2_with fail
  refine (pick_any 400 (by omega) (by omega) b v l N w HC.out.1 HC.out.2 (by omega)).mono ?_
  rintro e w1 ⟨⟨x, rfl, hx⟩, hc1, hg1⟩
  have HC1 := hideT' (And.intro hc1 hg1)
  obtain ⟨y, hy⟩ : ∃ y : Nat, (1 : Int) + (x : Int) = (y : Int) := ⟨1 + x, by omega⟩
  have hw : IntKind.i64.wrap ((1 : Int) + (x : Int)) = (y : Int) := by rw [IntKind.wrap_i64]; omega
  have hy2 : y < 10000 := by omega
  clear hc1 hg1 hy
  go_wp2_with fail
  refine (l1Num_any y hy2 w1).mono ?_
  rintro e w2 ⟨s, rfl, hs1, hs2, hB2⟩
  have hsz := num_size hs1 hs2 hy2
  have HC2 := hideT' (And.intro (HC1.out.1.grown (below_grow hB2 none) (by simp)) (HC1.out.2.trans (below_grow hB2 (some b))))
  clear hs1 hs2 hB2
  go_wp2
  go_ret
  exact ⟨⟨s, rfl, by omega⟩, HC2.out.1, HC2.out.2⟩

set_option maxHeartbeats 2000000 in
set_option maxRecDepth 100000 in
theorem drawPowMod_any (v : Value) (l : List Int) (w : World) (hC : Code w v l) :
    Calls Tryd.prog 33 #[v] w fun e w' => (∃ s t u : ByteArray, e = .returned (.tuple #[.string s, .string t, .string u]) ∧ s.size ≤ 1000 ∧ t.size ≤ 1000 ∧ u.size ≤ 1000) ∧ Below w.heap.size w w' := by
  obtain ⟨hc0, hC0⟩ := cur_new hC
  have HC := hideT' (And.intro hc0 hC0)
  obtain ⟨o, cap, rfl⟩ := hC.1.len
  clear hC hc0 hC0
  go_enter Tryd.func33, Tryd.ntmps33
  go_wp2_with fail
  refine (natDraw_any w.heap.size _ l 0 _ HC.out.1 HC.out.2 (by omega)).mono ?_
  rintro e w1 ⟨⟨s, rfl, hs⟩, hc1, hg1⟩
  have HC1 := hideT' (And.intro hc1 (And.intro (HC.out.2.grown hg1) hg1))
  clear hc1 hg1
  go_wp2_with fail
  refine (smallDraw_any w.heap.size _ l (0 + 1000) w1 HC1.out.1 HC1.out.2.1 (by omega)).mono ?_
  rintro e w2 ⟨⟨a2, rfl, ha2⟩, hc2, hg2⟩
  have HC2 := hideT' (And.intro hc2 (And.intro (HC1.out.2.1.grown hg2) (HC1.out.2.2.trans hg2)))
  have hbl2 : w.heap.size < w2.heap.size := hc2.lt
  clear hc2 hg2
  go_wp2_with fail
  have HT := hideT' (texts_new w2 [a2, ⟨#[48]⟩, ⟨#[49]⟩, ⟨#[49, 48, 48, 48, 48, 48, 48, 48, 48, 55]⟩] 10 (by
    intro t ht
    simp only [List.mem_cons, List.not_mem_nil, or_false] at ht
    rcases ht with rfl | rfl | rfl | rfl
    · omega
    all_goals decide))
  have hag := alloc_grown w2 (.cells #[.string a2, .string ⟨#[48]⟩, .string ⟨#[49]⟩, .string ⟨#[49, 48, 48, 48, 48, 48, 48, 48, 48, 55]⟩] 9)
  refine (of_any w2.heap.size 4 10 4 (by omega) (by omega) w.heap.size _ l (0 + 1000 + 2) _ (HC2.out.1.grown (hag none) (by simp)) (HC2.out.2.1.grown (hag (some w.heap.size))) (by omega) HT.out (by omega) (by simp)).mono ?_
  rintro e w3 ⟨⟨t, rfl, ht⟩, hc3, hg3⟩
  have HC3 := hideT' (And.intro hc3 (And.intro ((HC2.out.2.1.grown (hag (some w.heap.size))).grown hg3) (HC2.out.2.2.trans ((hag (some w.heap.size)).trans hg3))))
  clear hc3 hg3 hag
  go_wp2_with fail
  refine (smallDraw_any w.heap.size _ l (0 + 1000 + 2 + 2) w3 HC3.out.1 HC3.out.2.1 (by omega)).mono ?_
  rintro e w4 ⟨⟨a4, rfl, ha4⟩, hc4, hg4⟩
  have HC4 := hideT' (And.intro hc4 (And.intro (HC3.out.2.1.grown hg4) (HC3.out.2.2.trans hg4)))
  clear hc4 hg4
  go_wp2_with fail
  refine (smallDraw_any w.heap.size _ l (0 + 1000 + 2 + 2 + 2) w4 HC4.out.1 HC4.out.2.1 (by omega)).mono ?_
  rintro e w5 ⟨⟨a5, rfl, ha5⟩, hc5, hg5⟩
  have HC5 := hideT' (And.intro hc5 (And.intro (HC4.out.2.1.grown hg5) (HC4.out.2.2.trans hg5)))
  have hbl5 : w.heap.size < w5.heap.size := hc5.lt
  clear hc5 hg5
  go_wp2_with fail
  have HT5 := hideT' (texts_new w5 [a4, a5, ⟨#[48]⟩, ⟨#[49, 48, 48, 48, 48, 48, 48, 48, 48, 55]⟩] 10 (by
    intro t ht
    simp only [List.mem_cons, List.not_mem_nil, or_false] at ht
    rcases ht with rfl | rfl | rfl | rfl
    · omega
    · omega
    all_goals decide))
  have hag := alloc_grown w5 (.cells #[.string a4, .string a5, .string ⟨#[48]⟩, .string ⟨#[49, 48, 48, 48, 48, 48, 48, 48, 48, 55]⟩] 9)
  refine (of_any w5.heap.size 4 10 4 (by omega) (by omega) w.heap.size _ l (0 + 1000 + 2 + 2 + 2 + 2) _ (HC5.out.1.grown (hag none) (by simp)) (HC5.out.2.1.grown (hag (some w.heap.size))) (by omega) HT5.out (by omega) (by simp)).mono ?_
  rintro e w6 ⟨⟨u, rfl, hu⟩, hc6, hg6⟩
  have HB := hideT' (cur_below (HC5.out.2.2.trans ((hag (some w.heap.size)).trans hg6)))
  clear hc6 hg6 hag
  go_wp2
  go_ret3
  exact ⟨⟨s, t, u, rfl, hs, by omega, by omega⟩, HB.out⟩

set_option maxHeartbeats 1000000 in
set_option maxRecDepth 100000 in
theorem numberOf_any (v : Value) (l : List Int) (w : World) (hC : Code w v l) :
    Calls Tryd.prog 35 #[v] w fun e w' => (∃ x : Int, e = .returned (.int .i64 x) ∧ 0 ≤ x ∧ x < 1000003) ∧ w' = w := by
  have HC := hideT' hC
  obtain ⟨o, cap, rfl⟩ := hC.1.len
  have hLn : l.length ≤ maxLen := hC.2.2
  unfold maxLen at hLn
  clear hC
  go_enter Tryd.func35, Tryd.ntmps35
  go_wp2_with fail
  go_loopg [3, 8] l.length (fun g vn vi wr => ∃ (j : Nat) (n : Int), g = l.length - j ∧ j ≤ l.length ∧ vn = .int .i64 n ∧ vi = .int .i64 (j : Int) ∧ 0 ≤ n ∧ n < 1000003 ∧ wr = w)
  case atStart => exact ⟨0, 0, rfl, Nat.zero_le _, rfl, rfl, by omega, by omega, rfl⟩
  case round =>
    obtain ⟨k, n, hg, hk, rfl, rfl, hn0, hn1, rfl⟩ := hrel
    by_cases hlt : (k : Int) < (l.length : Int)
    · have hk' : k < l.length := by omega
      obtain ⟨x, hx⟩ : ∃ x : Nat, l.getD k default = (x : Int) ∧ x ≤ 255 := ⟨(l.getD k default).toNat, by have := HC.out.2.1 k hk'; omega⟩
      obtain ⟨A, rfl, hcell⟩ : ∃ A, o = some A ∧ wr.cell? (A.add k) = some (.int .u8 (x : Int)) := by
        rcases HC.out.1 with ⟨h1, h2⟩ | ⟨a, cp, h1, h2, _⟩
        · rw [h2] at hk'; simp at hk'
        · cases h1
          refine ⟨a, rfl, ?_⟩
          have := h2 k 0 (.int .u8 (x : Int)) hk' (by rw [hx.1]; rfl)
          have e : (a.add k).add 0 = a.add k := by simp [Addr.add]
          rw [Nat.mul_one, e] at this
          exact this
      have hx255 := hx.2
      obtain ⟨y, hy⟩ : ∃ y, 31 * n = y := ⟨_, rfl⟩
      have hy0 : 0 ≤ y ∧ y < 31000093 := by omega
      obtain ⟨hy0, hy1⟩ := hy0
      have hwy : IntKind.i64.wrap y = y := by rw [IntKind.wrap_i64]; omega
      obtain ⟨z, hzz⟩ : ∃ z, y + (x : Int) = z := ⟨_, rfl⟩
      have hz0 : 0 ≤ z ∧ z < 31000349 := by omega
      obtain ⟨hz0, hz1⟩ := hz0
      have hwz : IntKind.i64.wrap z = z := by rw [IntKind.wrap_i64]; omega
      have hwx : IntKind.i64.wrap (x : Int) = (x : Int) := by rw [IntKind.wrap_i64]; omega
      obtain ⟨r, hr⟩ : ∃ r, z.tmod 1000003 = r := ⟨_, rfl⟩
      have hr0 : 0 ≤ r ∧ r < 1000003 := by rw [← hr, Int.tmod_eq_emod_of_nonneg hz0]; omega
      obtain ⟨hr0, hr1⟩ := hr0
      have hwr : IntKind.i64.wrap r = r := by rw [IntKind.wrap_i64]; omega
      clear hx
      go_wp2
      go_roundg (l.length - (k + 1))
      case measure => omega
      case rel => exact ⟨k + 1, r, rfl, by omega, by first | rfl | (congr 1; omega), by go_num, hr0, hr1, rfl⟩
    · go_wp2
      go_ret
      exact ⟨⟨n, rfl, hn0, hn1⟩, rfl⟩
end Go.Proofs.YtkcnadlencajaaaDoor
