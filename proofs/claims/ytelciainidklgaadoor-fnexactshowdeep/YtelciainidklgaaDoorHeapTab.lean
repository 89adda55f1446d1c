/-
  The library's table of powers of ten, and rows that stay where bytes are added elsewhere.
-/
import Derived.Test.YtelciainidklgaaDoorBaseRow
import Derived.Test.YtelciainidklgaaDoorShelf
import Derived.Lib.AppendStr
import Derived.Laws.IdiomStrings
import Derived.Lib.OthersKept
namespace Go.Proofs.YtelciainidklgaaDoor
open Go.RowKit
set_option linter.unusedVariables false

/-- The library's table of powers lies below B. -/
def TabH (B : Nat) (w : World) : Prop := Lib.TabBelow Tryd.prog B w ("internal/strconv.uint64pow10") .u64 Lib.pow10Tab
theorem TabH.on {B : Nat} {w w' : World} (h : TabH B w) (hb : Below B w w') : TabH B w' := Lib.TabBelow.on h hb
theorem TabH.up {B B' : Nat} {w : World} (h : TabH B w) (hB : B ≤ B') : TabH B' w := fun w' hw => h w' (hw.mono hB)
theorem infoH_u8 : (Tryd.prog.info? 5).map (fun i => (i.zero, i.size, i.bytes)) = some (some (.int .u8 0), 1, 1) := by kernel_rfl
theorem rowH_others {w w' : World} {k : Nat} {t e : TypeId} {cs : Array Value} (hR : RowAt w k t cs) (h : Lib.OthersKept e none w w') (ht : t ≠ e) : RowAt w' k t cs :=
  h k _ hR (by simp) (fun c fz he => by injection he with _ h2 _; exact ht h2)
theorem byteH_one (v : Int) : ∀ u ∈ [Value.int .u8 v], u.oneCell' = true := by
  intro u hu
  simp at hu
  subst hu; rfl
theorem convH_nil (w : World) : (convert 63 9 (.slice none 0 0)).run Tryd.prog w = .ok (.string ⟨#[]⟩) w := by
  simp [convert, run_underlying Tryd.underlying63, run_underlying Tryd.underlying9, run_underlying Tryd.underlying5, Conv.bytesToString]
  rfl
end Go.Proofs.YtelciainidklgaaDoor
