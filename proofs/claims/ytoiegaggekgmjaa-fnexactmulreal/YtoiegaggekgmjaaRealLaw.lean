/-
  Reals in the laws: toReal, eqReal, and an argument that is a real.
-/
import Derived.Test.YtoiegaggekgmjaaRealMem
import Derived.Test.YtoiegaggekgmjaaRecArg
namespace Go.Proofs.Ytoiegaggekgmjaa
open Go.ChangeShapes Go.WideShapes Go.ChangeAt Go.RowKit
set_option linter.unusedVariables false

theorem row_third {w : World} (o o' : Obj) (T : TypeId) (cs : Array Value) : RowAt ((w.alloc o).alloc o') (w.heap.size + 1) T cs → RowAt (((w.alloc o).alloc o').alloc (.cells cs T)) (w.heap.size + 1) T cs := fun h => h.old _

set_option maxHeartbeats 1000000 in
theorem toReal_any (g : Bool) (m e : Int) (w : World) :
    Calls Try.prog 12 #[.agg #[.bool g, .int .i64 m, .int .i64 e]] w fun e' w' => e' = .returned (.agg #[.bool g, .int .i64 m, .int .i64 e]) ∧ Below w.heap.size w w' := by
  have hz := zero_real.1
  go_enter Try.func12, Try.ntmps12
  go_wp2
  refine bodyPost_ret (res_real Try.results12 _ _ (w.heap.size + 1) _ _ _ rfl ?_) rfl ⟨rfl, (((Below.refl _ _).alloc (Nat.le_refl _) _).alloc (by simp) _).alloc (by simp; omega) _⟩
  have := RowAt.new (w.alloc (.cells #[.bool g, .int .i64 m, .int .i64 e] 23)) 25 #[.bool g, .int .i64 m, .int .i64 e]
  rw [World.size_alloc] at this
  exact this.old _

set_option maxHeartbeats 1000000 in
theorem eqReal_any (g : Bool) (m e : Int) (w : World) :
    Calls Try.prog 16 #[.agg #[.bool g, .int .i64 m, .int .i64 e], .agg #[.bool g, .int .i64 m, .int .i64 e]] w fun e' w' => e' = .returned (.bool true) ∧ Below w.heap.size w w' := by
  have hg : (g != g) = false := by cases g <;> rfl
  go_enter Try.func16, Try.ntmps16
  go_wp2
  go_ret
  exact ⟨rfl, ((Below.refl _ _).alloc (Nat.le_refl _) _).alloc (by simp) _⟩

theorem cells_intL : Try.prog.cellsOf 3 = 1 := by kernel_rfl
theorem cells_boolL : Try.prog.cellsOf 4 = 1 := by kernel_rfl
set_option maxRecDepth 100000 in
/-- A real as an argument. -/
theorem open_real {H : Type} {enc : TypeId × Value → H} {W : World} {base : Nat} {v : Value} {d : DataW H} {ps : List MemPlace} (hval : Value.okWide Try.prog W .any base 23 v) (h : DataW.Trod enc Try.prog W 0 (fun _ => true) true 23 v d ps) :
    ∃ (g : Bool) (m e : Int), v = .agg #[.bool g, .int .i64 m, .int .i64 e] := by
  obtain ⟨cs, rfl, hcs⟩ := okWide_struct Try.underlying23 hval
  have hc3 : Try.prog.cellsOf 23 = 3 := by kernel_rfl
  rw [hc3] at hcs
  obtain ⟨a, b, c, rfl⟩ : ∃ a b c, cs = #[a, b, c] := by
    obtain ⟨l⟩ := cs
    match l, hcs with
    | [a, b, c], _ => exact ⟨a, b, c, rfl⟩
  obtain ⟨fuel, hf⟩ := h
  obtain ⟨y0, y1, y2, m, _, _, h0, h1, h2⟩ := Deep.trod_struct3 Try.underlying23 hf
  have g0 : DataW.trod enc Try.prog W 0 (fun _ => true) true m 4 (([a, b, c].drop 0).take (Try.prog.cellsOf 4)) = some y0 := h0
  have g1 : DataW.trod enc Try.prog W 0 (fun _ => true) true m 3 (([a, b, c].drop 1).take (Try.prog.cellsOf 3)) = some y1 := h1
  have g2 : DataW.trod enc Try.prog W 0 (fun _ => true) true m 3 (([a, b, c].drop 2).take (Try.prog.cellsOf 3)) = some y2 := h2
  rw [cells_boolL] at g0
  rw [cells_intL] at g1 g2
  obtain ⟨k0, e0, _⟩ := DataW.trod_bool Try.underlying4 g0
  obtain ⟨k1, e1, _, _⟩ := DataW.trod_int Try.underlying3 g1
  obtain ⟨k2, e2, _, _⟩ := DataW.trod_int Try.underlying3 g2
  simp at e0 e1 e2
  exact ⟨k0, k1, k2, by rw [e0, e1, e2]⟩
theorem size_lreal : (Try.prog.info? 23).map (·.size) = some 3 := by kernel_rfl
theorem run_loadLR {o : Oper} {a : Act} {w : World} (x : Operand) (ho : o.op = .load 23 x) (b : Nat) (hx : a.eval x = .pointer (some ⟨b, 0, none⟩)) (g : Bool) (m e : Int) (hN : RowAt w b 23 #[.bool g, .int .i64 m, .int .i64 e]) :
    (execOp a.eval o).run Try.prog w = .ok (.value (.agg #[.bool g, .int .i64 m, .int .i64 e])) w := by
  have h := run_loadVar_row (P := Try.prog) w b 23 23 #[.bool g, .int .i64 m, .int .i64 e] (0, 0) _ hN Try.underlying23 rfl size_lreal
  unfold execOp
  simp only [ho, hx, Instr.loadAt, Instr.sureAddr, Sem.run_bind, Sem.run_pure, Result.andThen_ok, h]
end Go.Proofs.Ytoiegaggekgmjaa
