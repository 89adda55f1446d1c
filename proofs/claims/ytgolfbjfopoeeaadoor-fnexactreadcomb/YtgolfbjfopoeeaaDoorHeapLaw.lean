/-
  Heaps: such as came in, and what the laws' own helpers over them answer.
-/
import Derived.Test.YtgolfbjfopoeeaaDoorRecArg
import Derived.Test.YtgolfbjfopoeeaaDoorMarkCell
import Derived.Test.YtgolfbjfopoeeaaDoorMarkInt
namespace Go.Proofs.YtgolfbjfopoeeaaDoor
open Go.ChangeShapes Go.WideShapes Go.ChangeAt Go.RowKit
set_option linter.unusedVariables false

/-- A cell: Leaf, N, A, B. -/
abbrev Cl := Bool × Int × Int × Int
structure Hp where
  old : Int
  cells : List Cl
  roots : List Int

def HpSmall (h : Hp) (n : Nat) : Prop := h.cells.length ≤ n ∧ h.roots.length ≤ n
/-- A heap that came in. -/
def HpIn (w : World) (vl vr : Value) (h : Hp) : Prop := SlR w vl cellL 4 h.cells ∧ SlR w vr intL 1 h.roots
theorem HpIn.below {w w' : World} {vl vr : Value} {m : Hp} (h : HpIn w vl vr m) (hB : Below w.heap.size w w') : HpIn w' vl vr m := ⟨h.1.below hB, h.2.below hB⟩
/-- A heap that can be read. -/
def HpRd (w : World) (vl vr : Value) (m : Hp) : Prop := InR w vl cellL 4 m.cells ∧ InR w vr intL 1 m.roots
theorem HpRd.below {w w' : World} {vl vr : Value} {m : Hp} (h : HpRd w vl vr m) (hB : Below w.heap.size w w') : HpRd w' vl vr m := ⟨h.1.below hB, h.2.below hB⟩
/-- A heap as a value. -/
abbrev hpC (b c : Nat) (m : Hp) : Array Value := #[.int .i64 m.old, slR b m.cells, slR c m.roots]

theorem hp_one (old : Int) (o : Option Addr) (n c : Nat) (o' : Option Addr) (n' c' : Nat) : (#[Value.int .i64 old, .slice o n c, .slice o' n' c'] : Array Value).all (·.oneCell') = true := by
  rw [Array.all_eq_true_iff_forall_mem]
  intro v hv
  simp at hv
  rcases hv with rfl | rfl | rfl <;> rfl
theorem size_ints : (Tryd.prog.info? 87).map (·.size) = some 1 := by kernel_rfl
theorem run_loadRow {o : Oper} {a : Act} {w : World} (x : Operand) (T : TypeId) (ho : o.op = .load T x) (b : Nat) (hx : a.eval x = .pointer (some ⟨b, 0, none⟩)) (cs : Array Value) (fs : Array Field) (hN : RowAt w b T cs) (hu : Tryd.prog.underlying T = some (.struct fs)) (hi : (Tryd.prog.info? T).map (·.size) = some cs.size) :
    (execOp a.eval o).run Tryd.prog w = .ok (.value (.agg cs)) w := by
  have h := run_loadVar_row (P := Tryd.prog) w b T T cs (0, 0) (.struct fs) hN hu rfl hi
  unfold execOp
  simp only [ho, hx, Instr.loadAt, Instr.sureAddr, Sem.run_bind, Sem.run_pure, Result.andThen_ok, h]

theorem lit_i64 {n : Int} (h : (Lit.int .i64 n).wf = true) : -9223372036854775808 ≤ n ∧ n ≤ 9223372036854775807 := by
  exact bounds_i64 h

theorem open_int1 {H : Type} {enc : TypeId × Value → H} {W : World} (n : Nat) (cs : List Value) (x : DataW H × List MemPlace) (hl : cs.length = 1) (h : DataW.trod enc Tryd.prog W 0 (fun _ => true) true n 3 cs = some x) :
    ∃ d : Int, cs = intL d ∧ True := by
  obtain ⟨s, e0, _, _⟩ := DataW.trod_int Tryd.underlying3 h
  exact ⟨s, e0, trivial⟩
theorem cells_sliR : Tryd.prog.cellsOf 87 = 1 := by kernel_rfl

end Go.Proofs.YtgolfbjfopoeeaaDoor
