/-
  strings.Clone: the same text; of what was there nothing turns.
-/
import Derived.Test.YtehjejjkfeljmaaGreatDoorRows
import Derived.Shelf.Pu.Clone
import Derived.WalkKit
import Derived.Below
namespace Go.Proofs.YtehjejjkfeljmaaGreatDoor
open Go.RowKit
set_option linter.unusedVariables false

def cloneRen : Go.Shelf.Ren := ⟨fun | 25 => 209 | n => n, fun | 37 => 22 | 47 => 275 | n => n, fun | n => n⟩
theorem cloneLays : Go.Proofs.LaysPu.n25 Tryz.prog cloneRen := {
  mixed := by kernel_rfl
  f25 := Tryz.func209.trans (congrArg some (by kernel_rfl))
  t0 := Tryz.underlying0
  a0 := Tryz.isAgg0
  z0 := Tryz.sizeOf0
  v0 := Tryz.zeroValue0
  i0 := by kernel_rfl
  t3 := Tryz.underlying3
  a3 := Tryz.isAgg3
  z3 := Tryz.sizeOf3
  v3 := Tryz.zeroValue3
  i3 := by kernel_rfl
  t4 := Tryz.underlying4
  a4 := Tryz.isAgg4
  z4 := Tryz.sizeOf4
  v4 := Tryz.zeroValue4
  i4 := by kernel_rfl
  t5 := Tryz.underlying5
  a5 := Tryz.isAgg5
  z5 := Tryz.sizeOf5
  v5 := Tryz.zeroValue5
  i5 := by kernel_rfl
  t9 := Tryz.underlying9
  a9 := Tryz.isAgg9
  z9 := Tryz.sizeOf9
  v9 := Tryz.zeroValue9
  i9 := by kernel_rfl
  t37 := Tryz.underlying22
  a37 := Tryz.isAgg22
  z37 := Tryz.sizeOf22
  v37 := Tryz.zeroValue22
  i37 := by kernel_rfl
  t47 := Tryz.underlying275
  a47 := Tryz.isAgg275
  z47 := Tryz.sizeOf275
  v47 := Tryz.zeroValue275
  i47 := by kernel_rfl }
theorem clone_any (s : ByteArray) (w : World) (hs : s.size ≤ 1500) : Calls Tryz.prog 209 #[.string s] w fun e w' => e = .returned (.string s) ∧ Below w.heap.size w w' :=
  AnyPu.stringslite_Clone cloneLays s w (by omega)
set_option maxHeartbeats 1000000 in
set_option maxRecDepth 100000 in
theorem strClone_any (s : ByteArray) (w : World) (hs : s.size ≤ 1500) : Calls Tryz.prog 146 #[.string s] w fun e w' => e = .returned (.string s) ∧ Below w.heap.size w w' := by
  go_enter Tryz.func146, Tryz.ntmps146
  go_wp2_with fail
  refine (clone_any s _ hs).mono ?_
  rintro e w' ⟨rfl, hW⟩
  go_wp2
  go_ret
  exact ⟨rfl, hW⟩
end Go.Proofs.YtehjejjkfeljmaaGreatDoor
