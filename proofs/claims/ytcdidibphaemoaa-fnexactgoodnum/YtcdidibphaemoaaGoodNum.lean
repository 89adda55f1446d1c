/-
  What spec.GoodNum and impl.GoodNum answer.
-/
import Derived.Test.YtcdidibphaemoaaReadNum
import Derived.Test.YtcdidibphaemoaaSpecParts
namespace Go.Proofs.Ytcdidibphaemoaa
open Go.RowKit
set_option linter.unusedVariables false

set_option maxHeartbeats 400000 in
theorem specGoodNum_any (s : ByteArray) (w : World) (hs : s.size ≤ maxLen) :
    Calls Try.prog 5 #[.string s] w fun e w' => e = .returned (.bool (okN s.data.toList)) ∧ Below w.heap.size w w' := by
  go_enter Try.func5, Try.ntmps5
  go_wp2_with fail
  refine (l2Parts_any s _ hs).mono ?_
  rintro e w1 ⟨⟨g, t, u, rfl, _⟩, hW⟩
  obtain ⟨b, hb⟩ : ∃ b, b = okN s.data.toList := ⟨_, rfl⟩
  rw [← hb]
  have HB := hideT' hb
  clear hb
  go_wp2
  go_ret
  exact ⟨by rw [← HB.out]; rfl, hW⟩

set_option maxHeartbeats 400000 in
theorem implGoodNum_any (s : ByteArray) (w : World) (hs : s.size ≤ maxLen) :
    Calls Try.prog 6 #[.string s] w fun e w' => e = .returned (.bool (okN s.data.toList)) ∧ Below w.heap.size w w' := by
  have hz2 := zero_num.1
  go_enter Try.func6, Try.ntmps6
  go_wp2_with fail
  refine (readNum_any s _ hs).mono ?_
  rintro e w1 ⟨⟨g, k, j, p, q, rfl, hp, hq, _⟩, hW⟩
  obtain ⟨b, hb⟩ : ∃ b, b = okN s.data.toList := ⟨_, rfl⟩
  rw [← hb]
  have HB := hideT' hb
  clear hb
  have F := NumAt.new w1 false 0 zP 0 zP
  go_wp2_with (refine store_num rfl _ _ rfl rfl w1.heap.size g k p j q rfl rfl false 0 zP 0 zP F zP_len zP_len hp hq ?_; intro w2 hN2 hg2 hs2)
  go_ret
  refine ⟨by rw [← HB.out]; rfl, (hW.alloc hW.size _).grown hg2 (by have := hW.size; simp; omega) (by intro k hk; cases hk; exact hW.size)⟩
end Go.Proofs.Ytcdidibphaemoaa
