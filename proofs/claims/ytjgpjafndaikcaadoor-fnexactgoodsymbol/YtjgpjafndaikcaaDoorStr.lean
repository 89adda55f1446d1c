/-
  Texts held against each other: plain facts.
-/
import Derived.Test.YtjgpjafndaikcaaDoorCmp
import Derived.WideShapes
namespace Go.Proofs.YtjgpjafndaikcaaDoor
open Go.RowKit
set_option linter.unusedVariables false

theorem str_ne {s : ByteArray} {l : List UInt8} (h : s.data.toList ≠ l) : (s.toList == l) = false := by
  rw [ByteArray.toList_eq]; exact beq_eq_false_iff_ne.2 h
theorem str_eq {s : ByteArray} {l : List UInt8} (h : s.data.toList = l) : (s.toList == l) = true := by
  rw [ByteArray.toList_eq, h]; exact beq_self_eq_true l

theorem canon_one {l : List UInt8} (hl : canonB l = true) : dval l = 1 ↔ l = [49] := by
  constructor
  · intro h; exact canon_inj hl (by decide) (by rw [h]; decide)
  · rintro rfl; decide

theorem one_canon : canonB ((⟨#[49]⟩ : ByteArray).data.toList) = true ∧ dval ((⟨#[49]⟩ : ByteArray).data.toList) = 1 := by decide

end Go.Proofs.YtjgpjafndaikcaaDoor
