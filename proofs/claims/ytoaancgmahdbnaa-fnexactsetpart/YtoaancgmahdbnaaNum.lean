/-
  What spec.l1Num answers for numbers below ten thousand.
-/
import Derived.Test.YtoaancgmahdbnaaDec
import Derived.Test.YtoaancgmahdbnaaPkGood
import Derived.Laws.IdiomStrings
import Derived.Deep.RegionWith
namespace Go.Proofs.Ytoaancgmahdbnaa
open Go.RowKit
set_option linter.unusedVariables false

theorem hide2 {p q : Prop} (h : p) (g : q) : Hid (p ∧ q) := ⟨h, g⟩

theorem num_size {s : ByteArray} {n : Nat} (hc : canonB s.data.toList = true) (hv : dval s.data.toList = n) (hn : n < 10000) : (s.size : Int) ≤ 4 := by
  have := (canon_len_le hc 4 (by omega)).2 (by rw [hv]; omega)
  have e : s.data.toList.length = s.size := by simp
  omega

/-- The byte of a digit. -/
def db (d : Nat) : UInt8 := UInt8.ofNat (48 + d)
theorem db_dig (d : Nat) (h : d < 10) : isDig (db d) = true ∧ dv (db d) = d := dig_ofNat d h
theorem db_nat (d : Nat) (h : d < 10) : ((db d).toNat : Int) = 48 + (d : Int) := by
  unfold db; have : (UInt8.ofNat (48 + d)).toNat = 48 + d := by simp; omega
  omega

end Go.Proofs.Ytoaancgmahdbnaa
