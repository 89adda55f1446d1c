/-
  What spec.laMod, laPow and PowModNat answer.
-/
import Derived.Test.YthbnacikomimfaaDoorSpecRoot
import Derived.Test.YthbnacikomimfaaDoorPkImplDigits
namespace Go.Proofs.YthbnacikomimfaaDoor
open Go.RowKit
set_option linter.unusedVariables false

theorem Tx.lt {s : ByteArray} {n k : Nat} (h : Tx s n) (hk : s.size ≤ k) : n < 10 ^ k := by
  rw [← h.2]; exact Nat.lt_of_lt_of_le (dval_lt _ (canon_all h.1)) (Nat.pow_le_pow_right (by decide) (by simpa using hk))

set_option maxHeartbeats 1000000 in
theorem modT {a b : ByteArray} {n m : Nat} (w : World) (ha : Tx a n) (hb : Tx b m) (hsa : a.size ≤ 2000) (hsb : b.size ≤ 2000) (h0 : m ≠ 0) :
    Calls Tryd.prog 34 #[.string a, .string b] w fun e w' => ∃ s : ByteArray, e = .returned (.string s) ∧ Tx s (n % m) ∧ Below w.heap.size w w' := by
  have HA := hideT (And.intro ha (And.intro hb h0))
  clear ha hb h0
  go_enter Tryd.func34, Tryd.ntmps34
  go_wp2_with fail
  refine (divT _ HA.out.1 HA.out.2.1 hsa hsb HA.out.2.2).mono ?_
  rintro e w1 ⟨s, t, rfl, _, h2, hW1⟩
  have HT := hideT h2
  clear h2
  go_wp2
  go_ret
  exact ⟨t, rfl, HT.out, hW1⟩

/-- May the power be told? -/
def pmOk (a n m : ByteArray) : Bool := goodB a.data.toList && (goodB n.data.toList && goodB m.data.toList) && !decide (dval m.data.toList = 0) && decide (n.size ≤ 60) && decide (m.size ≤ 100)
/-- What PowModNat answers. -/
def PmAns (a n m : ByteArray) (e : Ending) : Prop :=
  (pmOk a n m = true ∧ ∃ s : ByteArray, e = .returned (.tuple #[.string s, .bool true]) ∧ Tx s (dval a.data.toList ^ dval n.data.toList % dval m.data.toList)) ∨ (pmOk a n m = false ∧ e = .returned (.tuple #[.string ⟨#[]⟩, .bool false]))
theorem PmAns.same {a n m : ByteArray} {e e' : Ending} (h : PmAns a n m e) (g : PmAns a n m e') : ∃ (s : ByteArray) (o : Bool), e = .returned (.tuple #[.string s, .bool o]) ∧ e' = .returned (.tuple #[.string s, .bool o]) := by
  rcases h with ⟨h0, s, rfl, h1⟩ | ⟨h0, rfl⟩
  · rcases g with ⟨g0, s', rfl, g1⟩ | ⟨g0, rfl⟩
    · obtain rfl := h1.inj g1
      exact ⟨_, _, rfl, rfl⟩
    · rw [h0] at g0; cases g0
  · rcases g with ⟨g0, _⟩ | ⟨g0, rfl⟩
    · rw [h0] at g0; cases g0
    · exact ⟨_, _, rfl, rfl⟩

end Go.Proofs.YthbnacikomimfaaDoor
