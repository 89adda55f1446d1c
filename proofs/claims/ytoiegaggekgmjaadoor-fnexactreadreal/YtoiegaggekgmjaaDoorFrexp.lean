/-
  What math.Frexp answers: any float, and an exponent within bounds.
-/
import Derived.Test.YtoiegaggekgmjaaDoorRows
import Derived.Test.YtoiegaggekgmjaaDoorBaseHeld
import Derived.WalkKit
import Derived.Below
import Derived.Laws.Externs
import Derived.Laws.FloatArith
namespace Go.Proofs.YtoiegaggekgmjaaDoor
open Go.RowKit
set_option linter.unusedVariables false

theorem bits_run (b : Nat) (w : World) : Sem.run Tryd.prog (callFunc 79 #[.float .f64 b]) w = .ok (.value (.int .u64 (b : Int))) w := by
  rw [run_callFunc_extern (fn := Tryd.f79) Tryd.func79 (by kernel_rfl) (by kernel_rfl) (by kernel_rfl) (e := Extern.MathFloatBits.float64bits) (by kernel_rfl)]
  rfl
theorem frombits_run (n : Int) (w : World) : Sem.run Tryd.prog (callFunc 80 #[.int .u64 n]) w = .ok (.value (.float .f64 n.toNat)) w := by
  rw [run_callFunc_extern (fn := Tryd.f80) Tryd.func80 (by kernel_rfl) (by kernel_rfl) (by kernel_rfl) (e := Extern.MathFloatBits.float64frombits) (by kernel_rfl)]
  rfl

theorem fcmp_run (op : BinOp) (hop : op = .eql ∨ op = .neq ∨ op = .lss ∨ op = .gtr) : ∃ f : Nat → Nat → Bool, ∀ x y w, Sem.run Tryd.prog (binOp op 74 (.float .f64 x) (.float .f64 y)) w = .ok (.bool (f x y)) w := by
  rcases hop with rfl | rfl | rfl | rfl <;> exact ⟨_, fun _ _ _ => rfl⟩
theorem farith_one (op : BinOp) (hop : op = .mul ∨ op = .add ∨ op = .quo) (x y : Nat) (w : World) : ∃ (r : Nat) (w' : World), Sem.run Tryd.prog (binOp op 74 (.float .f64 x) (.float .f64 y)) w = .ok (.float .f64 r) w' ∧ (w' = w ∨ w' = w.drew) := by
  cases hf : floatBits op .f64 x y with
  | some r => exact ⟨r, w, run_float_arith w op 74 .f64 x y r hf, .inl rfl⟩
  | none =>
    unfold floatBits at hf
    by_cases hq : (Question.nanBits .f64 x y).forced = true
    · refine ⟨0, w, ?_, .inl rfl⟩
      rcases hop with rfl | rfl | rfl <;> simp only at hf <;> simp [binOp, Op.floatArith, hf, hq]
    · refine ⟨(Question.nanBits .f64 x y).cut (w.tape w.drawn (Question.nanBits .f64 x y)), w.drew, ?_, .inr rfl⟩
      rcases hop with rfl | rfl | rfl <;> simp only at hf <;> simp [binOp, Op.floatArith, hf, hq]
/-- A float that may be drawn: the world is as it was, but for how often it was drawn. -/
theorem farith_run (op : BinOp) (hop : op = .mul ∨ op = .add ∨ op = .quo) : ∃ (f : Nat → Nat → World → Nat) (g : Nat → Nat → World → World), (∀ x y w, Sem.run Tryd.prog (binOp op 74 (.float .f64 x) (.float .f64 y)) w = .ok (.float .f64 (f x y w)) (g x y w)) ∧ ∀ x y w, (g x y w = w ∨ g x y w = w.drew) := by
  have h := farith_one op hop
  refine ⟨fun x y w => Classical.choose (h x y w), fun x y w => Classical.choose (Classical.choose_spec (h x y w)), fun x y w => (Classical.choose_spec (Classical.choose_spec (h x y w))).1, fun x y w => (Classical.choose_spec (Classical.choose_spec (h x y w))).2⟩
theorem drawn_below {w w' : World} (h : w' = w ∨ w' = w.drew) {B : Nat} {a : World} (hB : Below B a w) : Below B a w' := by
  rcases h with rfl | rfl
  · exact hB
  · exact hB.drew
theorem drawn_cell {w w' : World} (h : w' = w ∨ w' = w.drew) (a : Addr) : w'.cell? a = w.cell? a := by
  rcases h with rfl | rfl <;> rfl
theorem drawn_heap {w w' : World} (h : w' = w ∨ w' = w.drew) : w'.heap = w.heap := by
  rcases h with rfl | rfl <;> rfl

theorem and_2047 (x : Int) : 0 ≤ bits .and .u64 x 2047 ∧ bits .and .u64 x 2047 ≤ 2047 := by
  have h1 : ((BitVec.ofInt 64 x) &&& (BitVec.ofInt 64 2047)).toNat ≤ 2047 := by
    rw [BitVec.toNat_and]
    exact Nat.le_trans Nat.and_le_right (by decide)
  obtain ⟨y, hy⟩ : ∃ y : Nat, ((BitVec.ofInt 64 x) &&& (BitVec.ofInt 64 2047)).toNat = y := ⟨_, rfl⟩
  have h2 : bits .and .u64 x 2047 = IntKind.u64.wrap (y : Int) := by rw [← hy]; rfl
  rw [hy] at h1
  rw [h2, IntKind.wrap_u64]
  omega

set_option maxHeartbeats 2000000 in
theorem frexp_any (b : Nat) (w : World) :
    Calls Tryd.prog 46 #[.float .f64 b] w fun e w' => (∃ (x : Nat) (z : Int), (-1100 ≤ z ∧ z ≤ 1025) ∧ e = .returned (.tuple #[.float .f64 x, .int .i64 z])) ∧ (w' = w ∨ w' = w.drew) := by
  have h1 := bits_run
  have h2 := frombits_run
  obtain ⟨m, g, hm, hg⟩ := farith_run .mul (by simp)
  have HG := hideT' hg
  have HB := hideT' and_2047
  clear hg
  go_enter Tryd.func46, Tryd.ntmps46
  go_wp2
  all_goals
    go_ret2
    first
      | exact ⟨⟨_, _, by omega, rfl⟩, .inl rfl⟩
      | (refine ⟨⟨_, _, ?_, rfl⟩, .inl rfl⟩; have h := HB.out (b / 4503599627370496); generalize bits .and .u64 (b / 4503599627370496) 2047 = y at h; unfold wrap64; omega)
      | (refine ⟨⟨_, _, ?_, rfl⟩, HG.out _ _ _⟩; have h := HB.out (((m b 4841369599423283200 w : Nat) : Int) / 4503599627370496); generalize bits .and .u64 (((m b 4841369599423283200 w : Nat) : Int) / 4503599627370496) 2047 = y at h; unfold wrap64; omega)
end Go.Proofs.YtoiegaggekgmjaaDoor
