/-
  The texts SpecParts, GoodNum, one behind the other.
-/
import Derived.Test.YtnmofolhfbldjaaGreatDoorPkCutNum
import Derived.Test.YtnmofolhfbldjaaGreatDoorPkSpecSub
import Derived.Deep.CutBlock
import Derived.Deep.DeepCutAuto
import Derived.Test.YtnmofolhfbldjaaGreatDoorPkReadNumA

/-
  What spec.l2Parts answers.
-/
namespace Go.Proofs.YtnmofolhfbldjaaGreatDoor
open Go.RowKit
set_option linter.unusedVariables false

theorem results_tmp4 {fn : Func} {t u v x : Tmp} (h : fn.results = #[.tmp t, .tmp u, .tmp v, .tmp x]) (tmps : Array Value) (P : Program) (w : World) :
    (results fn tmps).run P w = .ok (.tuple #[tmps.getD t undef, tmps.getD u undef, tmps.getD v undef, tmps.getD x undef]) w := by
  simp [results, h]

/-- What l2Parts should hand back. -/
def PartsN (l : List UInt8) (e : Ending) : Prop := ∃ (g : Bool) (t u : ByteArray), e = .returned (.tuple #[.bool g, .string t, .string u, .bool (okN l)]) ∧
  (okN l = true → g = negN l ∧ goodB t.data.toList = true ∧ dval t.data.toList = topN l ∧ goodB u.data.toList = true ∧ dval u.data.toList = botN l)
theorem PartsN.no {l : List UInt8} (h : okN l = false) : PartsN l (.returned (.tuple #[.bool false, .string ⟨#[]⟩, .string ⟨#[]⟩, .bool false])) :=
  ⟨false, ⟨#[]⟩, ⟨#[]⟩, by rw [h], fun h' => by rw [h] at h'; cases h'⟩

/-- What the loop leaves. -/
def CutAt (l : List UInt8) (o u : ByteArray) : Prop := o.data.toList = overN l ∧ ((brokenN l = false ∧ u.data.toList = [49]) ∨ (brokenN l = true ∧ u.data.toList = underN l ∧ u.data.toList ≠ [48] ∧ u.data.toList ≠ [49]))

theorem neg_none {s : ByteArray} (h : ¬ 0 < s.size) : negN s.data.toList = false := by
  have h1 : s.data.toList.length = s.size := by simp
  have : s.data.toList = [] := List.length_eq_zero_iff.1 (by omega)
  rw [this]; rfl
theorem neg_some {s : ByteArray} (h : 0 < s.size) : negN s.data.toList = (s[0] == 45) := by
  unfold negN
  rw [List.head?_eq_getElem?, getN 0 h]; rfl

end Go.Proofs.YtnmofolhfbldjaaGreatDoor

/-
  What spec.GoodNum and impl.GoodNum answer.
-/
namespace Go.Proofs.YtnmofolhfbldjaaGreatDoor
open Go.RowKit
set_option linter.unusedVariables false

end Go.Proofs.YtnmofolhfbldjaaGreatDoor
