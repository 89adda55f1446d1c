/-
  What a method is looked up to (within a fenced walk).
-/
import Derived.Test.YtgolfbjfopoeeaaDoorTermImpl
namespace Go.Proofs.YtgolfbjfopoeeaaDoor
open Go.RowKit
theorem meth_run {t : TypeId} {name : String} {f : FuncId} (hm : (Tryd.prog.info? t).map (fun i => (i.methods.find? (·.name == name)).map (fun m => (m.path.toList, m.func))) = some (some ([], some (f, false)))) (hu : ∃ fs, Tryd.prog.underlying t = some (.struct fs)) (n : Nat) (v : Value) (w : World) : Sem.run Tryd.prog (method (n + 1) t v name) w = .ok (f, v) w := by
  obtain ⟨i, hi, h1⟩ := Option.map_eq_some_iff.1 hm
  obtain ⟨m, hf, h2⟩ := Option.map_eq_some_iff.1 h1
  simp only [Prod.mk.injEq] at h2
  obtain ⟨hp, hfu⟩ := h2
  obtain ⟨fs, hu⟩ := hu
  unfold method
  simp [Sem.run_bind, typeInfo, hi, hf, hp, hfu, follow, receiverAt, Sem.run_pure, Result.andThen, underlying, hu, Place.get]
theorem meth_limits (n : Nat) (v : Value) (w : World) : Sem.run Tryd.prog (method (n + 1) 51 v "loop.example/g00201/impl.limits") w = .ok (145, v) w := meth_run (by kernel_rfl) ⟨_, Tryd.underlying51⟩ n v w
theorem meth_arity (n : Nat) (v : Value) (w : World) : Sem.run Tryd.prog (method (n + 1) 51 v "loop.example/g00201/impl.arity") w = .ok (144, v) w := meth_run (by kernel_rfl) ⟨_, Tryd.underlying51⟩ n v w
theorem meth_under (n : Nat) (v : Value) (w : World) : Sem.run Tryd.prog (method (n + 1) 51 v "loop.example/g00201/impl.under") w = .ok (146, v) w := meth_run (by kernel_rfl) ⟨_, Tryd.underlying51⟩ n v w
end Go.Proofs.YtgolfbjfopoeeaaDoor
