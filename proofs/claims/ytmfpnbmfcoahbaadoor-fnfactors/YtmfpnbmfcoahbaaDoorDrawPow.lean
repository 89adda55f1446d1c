/-
  What spec.DrawPowModNat draws, and what laws.numberOf answers.
-/
import Derived.Test.YtmfpnbmfcoahbaaDoorDrawNats
import Derived.Test.YtmfpnbmfcoahbaaDoorNum
namespace Go.Proofs.YtmfpnbmfcoahbaaDoor
open Go.RowKit
set_option linter.unusedVariables false

set_option maxHeartbeats 1000000 in
set_option maxRecDepth 100000 in
theorem smallDraw_any (b : Nat) (v : Value) (l : List Int) (N : Nat) (w : World) (hc : CurAt w b v N) (hC : CodeAt w b v l) (hN : N + 2 ≤ 1099511627776) :
    Calls Tryd.prog 33 #[.pointer (some ⟨b, 0, none⟩)] w fun e w' => (∃ s : ByteArray, e = .returned (.string s) ∧ s.size ≤ 9) ∧ CurAt w' b v (N + 2) ∧ w.grownBy w' (some b) := by
  have HC := hideT' (And.intro hc hC)
  clear hc hC
  go_enter Tryd.func33, Tryd.ntmps33
  go_wp2_with fail
  refine (pick_any 400 (by omega) (by omega) b v l N w HC.out.1 HC.out.2 (by omega)).mono ?_
  rintro e w1 ⟨⟨x, rfl, hx⟩, hc1, hg1⟩
  have HC1 := hideT' (And.intro hc1 hg1)
  obtain ⟨y, hy⟩ : ∃ y : Nat, (1 : Int) + (x : Int) = (y : Int) := ⟨1 + x, by omega⟩
  have hw : IntKind.i64.wrap ((1 : Int) + (x : Int)) = (y : Int) := by rw [IntKind.wrap_i64]; omega
  have hy2 : y < 10000 := by omega
  clear hc1 hg1 hy
  go_wp2_with fail
  refine (l1Num_any y hy2 w1).mono ?_
  rintro e w2 ⟨s, rfl, hs1, hs2, hB2⟩
  have hsz := num_size hs1 hs2 hy2
  have HC2 := hideT' (And.intro (HC1.out.1.grown (below_grow hB2 none) (by simp)) (HC1.out.2.trans (below_grow hB2 (some b))))
  clear hs1 hs2 hB2
  go_wp2
  go_ret
  exact ⟨⟨s, rfl, by omega⟩, HC2.out.1, HC2.out.2⟩

end Go.Proofs.YtmfpnbmfcoahbaaDoor
