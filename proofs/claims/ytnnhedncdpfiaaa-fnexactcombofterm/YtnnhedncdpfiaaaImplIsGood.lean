/-
  What isGood of a tree answers.
-/
import Derived.Test.YtnnhedncdpfiaaaRangeRet
import Derived.Test.YtnnhedncdpfiaaaImplRed
import Derived.Test.YtnnhedncdpfiaaaMeth
namespace Go.Proofs.Ytnnhedncdpfiaaa
open Go.RowKit Go.Shelf BL
set_option linter.unusedVariables false
attribute [local go_sem] Oper.semAt_some

theorem TrIn.own3 {w : World} {P : Nat → Prop} {t : Lm} {b : Nat} (h : TrIn w P t b) : ∃ u, w.cell? ⟨b, 0, none⟩ = some (.int .i64 t.kd) ∧ w.cell? ⟨b, 1, none⟩ = some (.int .i64 t.nm) ∧ w.cell? ⟨b, 2, none⟩ = some (.int .i64 u) := by
  obtain ⟨u, v, h⟩ := h.head
  exact ⟨u, by rw [cell_of_row _ _ _ _ _ _ h]; rfl, by rw [cell_of_row _ _ _ _ _ _ h]; rfl, by rw [cell_of_row _ _ _ _ _ _ h]; rfl⟩
theorem results_one {fn : Func} {p : Tmp} (h : fn.results = #[.cell p 4]) (tmps : Array Value) (w : World) (b : Nat) (v : Value) (hp : tmps[p]?.getD undef = .pointer (some ⟨b, 0, none⟩)) (hc : w.cell? ⟨b, 0, none⟩ = some v) :
    (results fn tmps).run Try.prog w = .ok v w := by
  have hu := Try.underlying4
  simp [results, h, go_sem, hp, hc]
/-- Whether a node may stand. -/
def Lm.okN : Lm → Bool
  | .var n => decide (0 ≤ n) && decide (n ≤ 99)
  | _ => true
theorem okN_ar (t : Lm) (u : Int) : decide (arN ⟨t.kd, t.nm, u⟩ < 0) = !t.okN := by
  cases t with
  | var n =>
    simp only [Lm.kd, Lm.nm, arN, Lm.okN]
    by_cases h : 0 ≤ n ∧ n ≤ 99
    · simp [h.1, h.2]
    · rw [if_neg (by simpa using h)]
      have : (decide (0 ≤ n) && decide (n ≤ 99)) = false := by simpa using h
      rw [this]; simp
  | lam t => simp [Lm.kd, Lm.nm, arN, Lm.okN]
  | app s t => simp [Lm.kd, Lm.nm, arN, Lm.okN]
theorem ok_walk {t : Lm} {ys : List (Spot × Nat)} (h : ys.map Prod.fst = t.walk 0 (-1) 0) (hall : ∀ y ∈ ys, y.1.t.okN = true) : t.ok = true := by
  rw [Lm.walk_ok t 0 (-1) 0, ← h, List.all_eq_true]
  intro x hx
  obtain ⟨y, hy, rfl⟩ := List.mem_map.1 hx
  have := hall y hy
  revert this
  cases y.1.t <;> simp [Lm.okN]
theorem ok_bad {t : Lm} {pre : List Spot} {x : Spot} {post : List Spot} (h : t.walk 0 (-1) 0 = pre ++ x :: post) (hx : x.t.okN = false) : t.ok = false := by
  rw [Lm.walk_ok t 0 (-1) 0, List.all_eq_false]
  refine ⟨x, by rw [h]; simp, ?_⟩
  revert hx
  cases x.t <;> simp [Lm.okN]
def GdI (w : World) (pre : List (Spot × Nat)) (V : Nat → Prop) (W : World) : Prop :=
  (∀ z, V z ↔ z = w.heap.size) ∧ RowAt W w.heap.size 4 #[.bool false] ∧ Below w.heap.size w W ∧ ∀ y ∈ pre, y.1.t.okN = true
theorem GdI.step {w : World} {pre : List (Spot × Nat)} {V : Nat → Prop} {A B : World} {row : Option Nat} (h : GdI w pre V A) (hg : A.grownBy B row) (hr : ∀ r, row = some r → ¬ V r ∧ w.heap.size ≤ r) : GdI w pre V B :=
  ⟨h.1, h.2.1.grown hg (fun e => (hr _ e.symm).1 ((h.1 _).2 rfl)), h.2.2.1.grown hg h.2.2.1.size (fun k e => (hr k e).2), h.2.2.2⟩

/-- How a round of isGood begins. -/
def gdAct (w w2 : World) (t : Lm) (u : Int) (b : Nat) (x : Spot × Nat) : Act :=
  { tmps := #[.pointer (some ⟨b, 0, none⟩), undef, .pointer (some ⟨w.heap.size, 0, none⟩), .int .i64 150, .int .i64 40, undef, .pointer (some ⟨x.2, 0, none⟩), .tuple #[.int .i64 150, .int .i64 40], .pointer (some ⟨b, 0, none⟩), .pointer (some ⟨b, 0, none⟩), .pointer (some ⟨b, 0, none⟩),
      .agg #[.int .i64 t.kd, .int .i64 t.nm, .int .i64 u], .iface 54 (.agg #[.int .i64 t.kd, .int .i64 t.nm, .int .i64 u]), .tuple #[.int .i64 150, .int .i64 40], .int .i64 150, .int .i64 40, .pointer (some ⟨b, 0, none⟩), .pointer (some ⟨b, 0, none⟩), .pointer (some ⟨b, 4, none⟩),
      .int .i64 (t.sz : Int), .int .i64 150, .bool (decide ((150 : Int) < (t.sz : Int))), .bool (decide ((150 : Int) < (t.sz : Int))), .pointer (some ⟨b, 0, none⟩), .pointer (some ⟨b, 0, none⟩), .pointer (some ⟨b, 5, none⟩), .int .i64 (t.dp : Int), .int .i64 40, .bool (decide ((40 : Int) < (t.dp : Int))),
      .bool (decide ((150 : Int) < (t.sz : Int)) || decide ((40 : Int) < (t.dp : Int))), .pointer (some ⟨b, 0, none⟩), .func (.func 87) #[] #[.pointer (some ⟨w2.heap.size, 0, none⟩)], .agg #[.int .i64 (x.1.at_ : Int), .int .i64 x.1.up, .int .i64 (x.1.lam : Int)], .pointer (some ⟨x.2, 0, none⟩), undef, undef, undef, undef, undef, undef, undef], defers := [] }
end Go.Proofs.Ytnnhedncdpfiaaa
