/-
  What numbers tells: the numbers of the cells that are marked.
-/
import Derived.Test.YtelciainidklgaaDoorImplReach
import Derived.Test.YtelciainidklgaaDoorImplGood
import Derived.Test.YtelciainidklgaaDoorSpecReach
import Derived.Maps.AppendAt
namespace Go.Proofs.YtelciainidklgaaDoor
open Go.RowKit Go.Shelf BL
set_option linter.unusedVariables false
attribute [local go_sem] Oper.semAt_some

set_option maxHeartbeats 1000000 in
theorem only_any (hb mb off n c : Nat) (w : World) :
    Calls Tryd.prog 86 #[.pointer (some ⟨hb, 0, none⟩), .slice (some ⟨mb, off, none⟩) n c] w fun e w' => e = .returned (.func (.func 107) #[] #[.pointer (some ⟨w.heap.size + 1, 0, none⟩), .pointer (some ⟨w.heap.size, 0, none⟩)]) ∧ w' = (w.alloc (.cells #[.pointer (some ⟨hb, 0, none⟩)] 81)).alloc (.cells #[.slice (some ⟨mb, off, none⟩) n c] 109) := by
  go_enter Tryd.func86, Tryd.ntmps86
  go_wp2
  go_ret
  exact ⟨rfl, rfl⟩

theorem own_turn {A B : World} {row : Option Nat} {w0 base n s : Nat} {T : TypeId} {v : Value} {xs : List Value} (h : A.ownsRow base T s v n xs) (hg : A.grownBy B row) (hr : TurnsN w0 A row) : B.ownsRow base T s v n xs := by
  refine ⟨h.1, h.2.imp id fun ⟨g, cap, cur, h1, h2, h3, h4⟩ => ⟨g, cap, cur, h1, h2, row_turn h3 hg hr, h4⟩⟩
theorem idx_flat (l : List Nat) : (l.map fun i : Nat => (i : Int)).flatMap intL = l.flatMap fun i : Nat => intL (i : Int) := by
  induction l with
  | nil => rfl
  | cons a l ih => rw [List.map_cons, List.flatMap_cons, List.flatMap_cons, ih]
theorem MarksAt.below {W W' : World} {mb off B : Nat} {ms : List Bool} (h : MarksAt W mb off ms) (hB : Below B W W') (hm : mb < B) : MarksAt W' mb off ms := fun i hi => (hB.cell (p := ⟨mb, off + i, none⟩) hm).trans (h i hi)

/-- The slots of a round of numbers. -/
def nuAct (hb vb mb off bm bh k kc : Nat) (x : Nat) (lf : Bool) (kk a c : Int) : Act := ⟨#[.pointer (some ⟨hb, 0, none⟩), .slice (some ⟨mb, off, none⟩) k kc, undef, undef, .slice none 0 0, .pointer (some ⟨vb, 0, none⟩), .int .i64 (x : Int), .pointer (some ⟨hb, 0, none⟩), .slice (some ⟨mb, off, none⟩) k kc, .func (.func 107) #[] #[.pointer (some ⟨bm, 0, none⟩), .pointer (some ⟨bh, 0, none⟩)], .int .i64 (x : Int), .agg #[.bool lf, .int .i64 kk, .int .i64 a, .int .i64 c], undef, undef, undef, undef, undef], []⟩
/-- What holds between two rounds of numbers. -/
def NuI (w : World) (hb mb off k kc : Nat) (pre : List Nat) (W : World) : Prop :=
  (∃ v, Boxed W w.heap.size 23 v ∧ W.ownsRow (w.heap.size + 3) 3 1 v pre.length (pre.flatMap fun i : Nat => intL (i : Int))) ∧ (Boxed W (w.heap.size + 2) 109 (.slice (some ⟨mb, off, none⟩) k kc) ∧ Boxed W (w.heap.size + 1) 81 (.pointer (some ⟨hb, 0, none⟩))) ∧ Below w.heap.size w W ∧ pre.length ≤ 200 ∧ w.heap.size + 3 ≤ W.heap.size
theorem NuI.turn {w : World} {hb mb off k kc : Nat} {pre : List Nat} {A B : World} {row : Option Nat} {w0 : Nat} (h : NuI w hb mb off k kc pre A) (hg : A.grownBy B row) (hr : TurnsN w0 A row) (h0 : w.heap.size ≤ w0) : NuI w hb mb off k kc pre B := by
  obtain ⟨⟨v, h1, h2⟩, ⟨h3, h4⟩, h8, h9, h10⟩ := h
  exact ⟨⟨v, row_turn h1 hg hr, own_turn h2 hg hr⟩, ⟨row_turn h3 hg hr, row_turn h4 hg hr⟩, belowN_turn h8 hg hr h0 (Nat.le_refl _), h9, Nat.le_trans h10 hg.size⟩
theorem NuI.need {w : World} {hb mb off k kc n c1 : Nat} {o : Option Addr} {cs : List Cl} {ms : List Bool} {pre : List Nat} {A : World} (hn : n = cs.length) (hk : k ≤ n) (h1 : w.cell? ⟨hb, 1, none⟩ = some (.slice o n c1)) (hin : InR w (.slice o n c1) cellL 4 cs) (hms : MarksAt w mb off ms) (hmb : mb < w.heap.size) (h : NuI w hb mb off k kc pre A) : NeedO (w.heap.size + 2) (w.heap.size + 1) hb mb off kc o k n c1 cs ms pre A := by
  obtain ⟨_, ⟨h3, h4⟩, hB, _⟩ := h
  refine ⟨⟨h3.cell, h4.cell, (hB.cell (p := ⟨hb, 1, none⟩) (block_lt_of_cell (a := ⟨hb, 1, none⟩) h1)).trans h1⟩, hms.below hB hmb, fun i hi _ _ => ?_⟩
  obtain ⟨o', cap', e, hin⟩ := hin
  cases e
  obtain ⟨g, rfl, hg, hc⟩ := hin (fun e => absurd (show cs.length = 0 by rw [e]; rfl) (by omega))
  exact ⟨g, rfl, fun j u hu => (hB.cell (p := ⟨g, i * 4 + j, none⟩) hg).trans (hc i j u (by omega) hu)⟩

end Go.Proofs.YtelciainidklgaaDoor
