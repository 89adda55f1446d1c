/-
  What spec.DrawCompareNat, DrawAddNat, DrawToRadix draw.
-/
import Derived.Test.YtmfpnbmfcoahbaaDoorDrawNat
namespace Go.Proofs.YtmfpnbmfcoahbaaDoor
open Go.RowKit
set_option linter.unusedVariables false

/-- A new cursor over bytes that came in. -/
theorem cur_new {w : World} {v : Value} {l : List Int} (hC : Code w v l) : CurAt (w.alloc (.cells #[v, .int .i64 0, .int .u64 0] 41)) w.heap.size v 0 ∧ CodeAt (w.alloc (.cells #[v, .int .i64 0, .int .u64 0] 41)) w.heap.size v l := by
  refine ⟨⟨0, 0, Nat.le_refl _, by omega, RowAt.new w _ _⟩, ⟨hC.1.below ((Below.refl _ _).alloc (Nat.le_refl _) _), hC.2.1, hC.2.2⟩, ?_⟩
  intro a n c hv hl
  rcases hC.1 with ⟨h, h2⟩ | ⟨a', cp, h, _, hb⟩
  · rw [h2] at hl; simp at hl
  · rw [h] at hv; cases hv; have := hb hl; omega
theorem cur_below {w w' : World} {v : Value} (hg : (w.alloc (.cells #[v, .int .i64 0, .int .u64 0] 41)).grownBy w' (some w.heap.size)) : Below w.heap.size w w' :=
  ((Below.refl w.heap.size w).alloc (Nat.le_refl _) _).grown hg (by simp) (by intro k hk; cases hk; omega)

/-- Some numbers in a row. -/
def Ints (w : World) (q : Nat) (ns : List Int) : Prop := ∀ i, i < ns.length → w.cell? ⟨q, i, none⟩ = some (.int .i64 (ns.getD i 0))
theorem ints_new (w : World) (ns : List Int) : Ints (w.alloc (.cells (ns.map (Value.int .i64)).toArray 3)) w.heap.size ns := by
  intro i hi
  rw [cell_of_row _ w.heap.size i _ _ _ (RowAt.new w 3 (ns.map (Value.int .i64)).toArray)]
  simp [hi]
end Go.Proofs.YtmfpnbmfcoahbaaDoor
