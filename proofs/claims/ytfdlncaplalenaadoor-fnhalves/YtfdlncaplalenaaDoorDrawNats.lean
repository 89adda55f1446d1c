/-
  What spec.DrawCompareNat, DrawAddNat, DrawToRadix draw.
-/
import Derived.Test.YtfdlncaplalenaaDoorDrawNat
namespace Go.Proofs.YtfdlncaplalenaaDoor
open Go.RowKit
set_option linter.unusedVariables false

/-- A new cursor over bytes that came in. -/
theorem cur_new {w : World} {v : Value} {l : List Int} (hC : Code w v l) : CurAt (w.alloc (.cells #[v, .int .i64 0, .int .u64 0] 33)) w.heap.size v 0 ∧ CodeAt (w.alloc (.cells #[v, .int .i64 0, .int .u64 0] 33)) w.heap.size v l := by
  refine ⟨⟨0, 0, Nat.le_refl _, by omega, RowAt.new w _ _⟩, ⟨hC.1.below ((Below.refl _ _).alloc (Nat.le_refl _) _), hC.2.1, hC.2.2⟩, ?_⟩
  intro a n c hv hl
  rcases hC.1 with ⟨h, h2⟩ | ⟨a', cp, h, _, hb⟩
  · rw [h2] at hl; simp at hl
  · rw [h] at hv; cases hv; have := hb hl; omega
theorem cur_below {w w' : World} {v : Value} (hg : (w.alloc (.cells #[v, .int .i64 0, .int .u64 0] 33)).grownBy w' (some w.heap.size)) : Below w.heap.size w w' :=
  ((Below.refl w.heap.size w).alloc (Nat.le_refl _) _).grown hg (by simp) (by intro k hk; cases hk; omega)

/-- Some numbers in a row. -/
def Ints (w : World) (q : Nat) (ns : List Int) : Prop := ∀ i, i < ns.length → w.cell? ⟨q, i, none⟩ = some (.int .i64 (ns.getD i 0))
theorem ints_new (w : World) (ns : List Int) : Ints (w.alloc (.cells (ns.map (Value.int .i64)).toArray 3)) w.heap.size ns := by
  intro i hi
  rw [cell_of_row _ w.heap.size i _ _ _ (RowAt.new w 3 (ns.map (Value.int .i64)).toArray)]
  simp [hi]
set_option maxHeartbeats 1000000 in
set_option maxRecDepth 100000 in
theorem among_any (q c : Nat) (ns : List Int) (h1 : 1 ≤ ns.length) (h2 : ns.length ≤ 65536) (b : Nat) (v : Value) (l : List Int) (N : Nat) (w : World) (hc : CurAt w b v N) (hC : CodeAt w b v l) (hN : N + 1 ≤ 1099511627776) (hT : Ints w q ns) (hq : q ≠ b) (hql : q < w.heap.size) :
    Calls Tryd.prog 10 #[.pointer (some ⟨b, 0, none⟩), .slice (some ⟨q, 0, none⟩) ns.length c] w fun e w' => (∃ n : Int, e = .returned (.int .i64 n) ∧ n ∈ ns) ∧ CurAt w' b v (N + 2) ∧ w.grownBy w' (some b) := by
  have HC := hideT' (And.intro hc (And.intro hC hT))
  clear hc hC hT
  go_enter Tryd.func10, Tryd.ntmps10
  go_wp2_with fail
  refine (pick_any ns.length h1 h2 b v l N w HC.out.1 HC.out.2.1 hN).mono ?_
  rintro e w1 ⟨⟨x, rfl, hx⟩, hc1, hg1⟩
  have hs := HC.out.2.2 x hx
  have hm : ns.getD x 0 ∈ ns := by rw [List.getD_eq_getElem?_getD, List.getElem?_eq_getElem hx]; exact List.getElem_mem hx
  obtain ⟨n, hn⟩ : ∃ n, n = ns.getD x 0 := ⟨_, rfl⟩
  rw [← hn] at hs hm
  have hcell : w1.cell? ⟨q, x, none⟩ = some (.int .i64 n) := by rw [hg1.cell_far ⟨q, x, none⟩ hql (by intro e; exact hq (by simpa using e))]; exact hs
  have hxl : (x : Int) < (ns.length : Int) := by omega
  have HC1 := hideT' (And.intro hc1 hg1)
  clear hc1 hg1 hs hn
  go_wp2
  go_ret
  exact ⟨⟨n, rfl, hm⟩, HC1.out.1, HC1.out.2⟩

end Go.Proofs.YtfdlncaplalenaaDoor
