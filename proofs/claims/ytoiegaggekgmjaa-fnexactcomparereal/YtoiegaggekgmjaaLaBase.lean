/-
  What spec.la10, laShift, laCut, laMod answer.
-/
import Derived.Test.YtoiegaggekgmjaaMoreMath
import Derived.Test.YtoiegaggekgmjaaRecs
import Derived.Test.YtoiegaggekgmjaaBaseRow
import Derived.Test.YtoiegaggekgmjaaBaseHeld
import Derived.Test.YtoiegaggekgmjaaPkSpecText
import Derived.Test.YtoiegaggekgmjaaPkSpecSub
namespace Go.Proofs.Ytoiegaggekgmjaa
open Go.RowKit
set_option linter.unusedVariables false

def byL (x : Int) : List Value := [.int .u8 x]
theorem byL_len (x : Int) : (byL x).length = 1 := rfl
theorem by_flat (n : Nat) : (List.replicate n (0 : Int)).flatMap byL = Lib.byteCells (List.replicate n 0) := by
  induction n with
  | zero => rfl
  | succ n ih => rw [List.replicate_succ, List.flatMap_cons, ih, List.replicate_succ]; rfl
theorem by_make (n : Nat) (hn : n ≤ 1048576) (w : World) : (Instr.makeSlice 113 (.int .i64 (n : Int)) (.int .i64 (n : Int))).run Try.prog w = .ok (.slice (some ⟨w.heap.size, 0, none⟩) n n) (w.alloc (.cells (Lib.byteCells (List.replicate n 0)).toArray 5)) := by
  obtain ⟨i, hi, hz, hs, hb⟩ := u8_info
  have hr := run_make (P := Try.prog) w 113 5 i _ Try.underlying113 hi hz .i64 .i64 n n (by omega) (Int.le_refl _) (by rw [hb]; omega) (by omega)
  simp only [Int.toNat_natCast, hs] at hr
  have e : ((List.replicate n (0 : Int)).flatMap byL).toArray = (Lib.byteCells (List.replicate n 0)).toArray := by rw [by_flat]
  rw [hr, ← e, ← made_rec byL 1 byL_len _ (0 : Int) (by rfl) n]
  rfl
theorem by_set (t : List UInt8) (k : Nat) (c : UInt8) (x : Int) (hx : x = (c.toNat : Int)) : (Lib.byteCells t).toArray.setIfInBounds k (.int .u8 x) = (Lib.byteCells (t.set k c)).toArray := by
  apply Array.ext'
  subst hx
  simp [Lib.byteCells, List.map_set]
theorem by_size : (Try.prog.info? 5).map (·.size) = some 1 := by kernel_rfl
theorem by_row {w : World} {q : Nat} {t : List UInt8} (h : RowAt w q 5 (Lib.byteCells t).toArray) : Row w q (.slice (some ⟨q, 0, none⟩) t.length t.length) t := by
  refine ⟨q, t.length, rfl, Nat.le_refl _, RowAt.lt h, Nat.le_refl _, fun j u hu => ?_, fun j hj => ⟨?_, frozen_of_row w q _ _ _ h⟩⟩
  · rw [Nat.zero_add, cell_of_row w q j _ _ _ h]; simpa using hu
  · rw [Nat.zero_add, cell_of_row w q j _ _ _ h]; simp [Lib.byteCells, hj]
theorem fill_set (m k : Nat) (h : k < m) : (List.replicate k (48 : UInt8) ++ List.replicate (m - k) 0).set k 48 = List.replicate (k + 1) 48 ++ List.replicate (m - (k + 1)) 0 := by
  rw [List.set_append_right _ _ (by simp), List.length_replicate, Nat.sub_self, show m - k = (m - (k + 1)) + 1 by omega, List.replicate_succ, List.set_cons_zero, List.replicate_succ', List.append_assoc]; rfl

end Go.Proofs.Ytoiegaggekgmjaa
