/-
  Rows of texts, a text looked for in one (spec.l4Has), and the keywords: what both IsKeyword answer.
-/
import Derived.Test.YtjgpjafndaikcaaGreatDoorRows
import Derived.WalkKit
import Derived.WideShapes
import Derived.OpenShut
import Derived.ChangeOld
import Derived.Below
import Derived.Great.BuildSlice
import Derived.Deep.LoopGhost
namespace Go.Proofs.YtjgpjafndaikcaaGreatDoor
open Go.RowKit
set_option linter.unusedVariables false

/-- A row of texts in memory, from a place on. -/
def TxtAt (w : World) (b o : Nat) (l : List ByteArray) : Prop := ∀ i, i < l.length → w.cell? ⟨b, o + i, none⟩ = some (.string (l.getD i default))

theorem tx_eq {a b : ByteArray} (h : a = b) : (a.toList == b.toList) = true := by subst h; exact beq_self_eq_true _
theorem tx_ne {a b : ByteArray} (h : a ≠ b) : (a.toList == b.toList) = false := by
  rw [ByteArray.toList_eq, ByteArray.toList_eq, beq_eq_false_iff_ne]
  intro e
  apply h
  cases a; cases b
  simp only [ByteArray.mk.injEq] at *
  exact Array.toList_inj.1 e

/-- A text stands in a row. -/
def inL (l : List ByteArray) (s : ByteArray) : Bool := l.any (fun x => x.toList == s.toList)
theorem inL_take {l : List ByteArray} {s : ByteArray} {k : Nat} (hk : k < l.length) (h : inL (l.take k) s = false) (hne : ((l.getD k default).toList == s.toList) = false) : inL (l.take (k + 1)) s = false := by
  unfold inL at *
  rw [List.take_add_one, List.getElem?_eq_getElem hk, List.any_append, h, Bool.false_or]
  rw [List.getD, List.getElem?_eq_getElem hk] at hne
  simpa using hne
theorem inL_at {l : List ByteArray} {s : ByteArray} {k : Nat} (hk : k < l.length) (h : ((l.getD k default).toList == s.toList) = true) : inL l s = true := by
  unfold inL
  rw [List.any_eq_true]
  refine ⟨l.getD k default, ?_, h⟩
  simp [List.getD, List.getElem?_eq_getElem hk]

theorem tl_lit (x : Array UInt8) : (⟨x⟩ : ByteArray).toList = x.toList := by rw [ByteArray.toList_eq]
theorem tl_swap (s : ByteArray) (l : List UInt8) : (l == s.toList) = (s.toList == l) := Bool.beq_comm
theorem cell_new_row (w : World) (cs : Array Value) (t : TypeId) (i : Nat) : (w.alloc (.cells cs t)).cell? ⟨w.heap.size, 0 + i, none⟩ = cs[i]? := by
  rw [cell_of_row _ _ _ _ _ _ (heap_alloc_new w _), Nat.zero_add]
def kwL : List ByteArray := [⟨#[113, 117, 111, 116, 101]⟩, ⟨#[105, 102]⟩, ⟨#[100, 101, 102, 105, 110, 101]⟩, ⟨#[115, 101, 116, 33]⟩, ⟨#[108, 97, 109, 98, 100, 97]⟩, ⟨#[98, 101, 103, 105, 110]⟩, ⟨#[108, 101, 116]⟩, ⟨#[108, 101, 116, 42]⟩, ⟨#[108, 101, 116, 114, 101, 99]⟩, ⟨#[99, 111, 110, 100]⟩, ⟨#[101, 108, 115, 101]⟩, ⟨#[97, 110, 100]⟩, ⟨#[111, 114]⟩, ⟨#[119, 104, 101, 110]⟩, ⟨#[117, 110, 108, 101, 115, 115]⟩, ⟨#[100, 101, 102, 105, 110, 101, 45, 115, 121, 110, 116, 97, 120]⟩, ⟨#[115, 121, 110, 116, 97, 120, 45, 114, 117, 108, 101, 115]⟩]
theorem kwL_any (s : ByteArray) : inL kwL s = ((s.toList == [113, 117, 111, 116, 101]) || ((s.toList == [105, 102]) || ((s.toList == [100, 101, 102, 105, 110, 101]) || ((s.toList == [115, 101, 116, 33]) || ((s.toList == [108, 97, 109, 98, 100, 97]) || ((s.toList == [98, 101, 103, 105, 110]) || ((s.toList == [108, 101, 116]) || ((s.toList == [108, 101, 116, 42]) || ((s.toList == [108, 101, 116, 114, 101, 99]) || ((s.toList == [99, 111, 110, 100]) || ((s.toList == [101, 108, 115, 101]) || ((s.toList == [97, 110, 100]) || ((s.toList == [111, 114]) || ((s.toList == [119, 104, 101, 110]) || ((s.toList == [117, 110, 108, 101, 115, 115]) || ((s.toList == [100, 101, 102, 105, 110, 101, 45, 115, 121, 110, 116, 97, 120]) || ((s.toList == [115, 121, 110, 116, 97, 120, 45, 114, 117, 108, 101, 115])))))))))))))))))) := by
  simp only [inL, kwL, List.any_cons, List.any_nil, Bool.or_false]
  simp only [tl_lit, tl_swap s]

end Go.Proofs.YtjgpjafndaikcaaGreatDoor
