/-
  Rows of String: what the laws' own helpers over them answer.
-/
import Derived.Test.YtmfpnbmfcoahbaaDoorBaseHeld
import Derived.Test.YtmfpnbmfcoahbaaDoorRecs
namespace Go.Proofs.YtmfpnbmfcoahbaaDoor
open Go.RowKit
set_option linter.unusedVariables false
/-- The cell of one. -/
def stringL (x : ByteArray) : List Value := [.string x]
theorem stringL_len (x : ByteArray) : (stringL x).length = 1 := rfl
theorem stringL_one (x : ByteArray) : ∀ u ∈ stringL x, u.oneCell' = true := by
  intro u hu
  simp [stringL] at hu
  subst hu; rfl
theorem info_string : (Tryd.prog.info? 9).map (fun i => (i.zero, i.size, i.bytes)) = some (some (.string ⟨#[]⟩), 1, 16) := by kernel_rfl
theorem make_string (n : Nat) (hn : n ≤ 1048576) (w : World) : (Instr.makeSlice 31 (.int .i64 (n : Int)) (.int .i64 (n : Int))).run Tryd.prog w = .ok (.slice (some ⟨w.heap.size, 0, none⟩) n n) (w.alloc (.cells ((List.replicate n (⟨#[]⟩ : ByteArray)).flatMap stringL).toArray 9)) := by
  obtain ⟨i, hi, hzz⟩ := Option.map_eq_some_iff.1 info_string
  simp only [Prod.mk.injEq] at hzz
  obtain ⟨hz, hs, hb⟩ := hzz
  have hr := run_make (P := Tryd.prog) w 31 9 i _ Tryd.underlying31 hi hz .i64 .i64 n n (by omega) (Int.le_refl _) (by rw [hb]; omega) (by omega)
  simp only [Int.toNat_natCast, hs] at hr
  rw [hr, ← made_rec stringL 1 stringL_len _ (⟨#[]⟩ : ByteArray) (by rfl) n]
  rfl
theorem size_string : (Tryd.prog.info? 9).map (·.size) = some 1 := by kernel_rfl
end Go.Proofs.YtmfpnbmfcoahbaaDoor
