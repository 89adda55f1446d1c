/-
  Rows of texts, a text looked for in one (spec.l4Has), and the keywords: what both IsKeyword answer.
-/
import Derived.Test.YtmpghgaijphniaaRows
import Derived.WalkKit
import Derived.WideShapes
import Derived.OpenShut
import Derived.ChangeOld
import Derived.Below
import Derived.Great.BuildSlice
import Derived.Deep.LoopGhost
namespace Go.Proofs.Ytmpghgaijphniaa
open Go.RowKit
set_option linter.unusedVariables false

/-- A row of texts in memory, from a place on. -/
def TxtAt (w : World) (b o : Nat) (l : List ByteArray) : Prop := ∀ i, i < l.length → w.cell? ⟨b, o + i, none⟩ = some (.string (l.getD i default))

theorem tx_eq {a b : ByteArray} (h : a = b) : (a.toList == b.toList) = true := by subst h; exact beq_self_eq_true _
theorem tx_ne {a b : ByteArray} (h : a ≠ b) : (a.toList == b.toList) = false := by
  rw [ByteArray.toList_eq, ByteArray.toList_eq, beq_eq_false_iff_ne]
  intro e
  apply h
  cases a; cases b
  simp only [ByteArray.mk.injEq] at *
  exact Array.toList_inj.1 e

/-- A text stands in a row. -/
def inL (l : List ByteArray) (s : ByteArray) : Bool := l.any (fun x => x.toList == s.toList)
theorem inL_take {l : List ByteArray} {s : ByteArray} {k : Nat} (hk : k < l.length) (h : inL (l.take k) s = false) (hne : ((l.getD k default).toList == s.toList) = false) : inL (l.take (k + 1)) s = false := by
  unfold inL at *
  rw [List.take_add_one, List.getElem?_eq_getElem hk, List.any_append, h, Bool.false_or]
  rw [List.getD, List.getElem?_eq_getElem hk] at hne
  simpa using hne
theorem inL_at {l : List ByteArray} {s : ByteArray} {k : Nat} (hk : k < l.length) (h : ((l.getD k default).toList == s.toList) = true) : inL l s = true := by
  unfold inL
  rw [List.any_eq_true]
  refine ⟨l.getD k default, ?_, h⟩
  simp [List.getD, List.getElem?_eq_getElem hk]

set_option maxHeartbeats 1000000 in
set_option maxRecDepth 100000 in
theorem l4Has_any (b o c : Nat) (l : List ByteArray) (s : ByteArray) (w : World) (hT : TxtAt w b o l) (hl : l.length < 2 ^ 40) :
    Calls Try.prog 6 #[.slice (some ⟨b, o, none⟩) l.length c, .string s] w fun e w' => e = .returned (.bool (inL l s)) ∧ w' = w := by
  have HT : Hid (TxtAt w b o l) := hT
  clear hT
  go_enter Try.func6, Try.ntmps6
  go_wp2_with fail
  go_loopg [9] l.length (fun g i wr => ∃ (k : Nat), g = l.length - k ∧ k ≤ l.length ∧ i = .int .i64 (k : Int) ∧ Hid (inL (l.take k) s = false) ∧ wr = w)
  case atStart => exact ⟨0, rfl, by omega, by go_num, rfl, rfl⟩
  case round =>
    obtain ⟨k, rfl, hk, rfl, HN, rfl⟩ := hrel
    by_cases h : k < l.length
    · have hc := HT.out k h
      obtain ⟨x, hx⟩ : ∃ x, x = l.getD k default := ⟨_, rfl⟩
      rw [← hx] at hc
      have HX : Hid (x = l.getD k default) := hx
      clear hx
      cases he : (x.toList == s.toList) with
      | true =>
        have HY : Hid (inL l s = true) := inL_at h (by rw [← HX.out]; exact he)
        go_wp2
        go_ret
        exact ⟨by rw [HY.out]; rfl, rfl⟩
      | false =>
        have HE : Hid (inL (l.take (k + 1)) s = false) := inL_take h HN.out (by rw [← HX.out]; exact he)
        go_wp2_with fail
        go_roundg (l.length - (k + 1))
        case measure => omega
        case rel => exact ⟨k + 1, rfl, by omega, by go_num, HE.out, rfl⟩
    · have HY : Hid (inL l s = false) := by
        have := HN.out
        rwa [List.take_of_length_le (by omega)] at this
      go_wp2
      go_ret
      exact ⟨by rw [HY.out]; rfl, rfl⟩

theorem tl_lit (x : Array UInt8) : (⟨x⟩ : ByteArray).toList = x.toList := by rw [ByteArray.toList_eq]
theorem tl_swap (s : ByteArray) (l : List UInt8) : (l == s.toList) = (s.toList == l) := Bool.beq_comm
theorem cell_new_row (w : World) (cs : Array Value) (t : TypeId) (i : Nat) : (w.alloc (.cells cs t)).cell? ⟨w.heap.size, 0 + i, none⟩ = cs[i]? := by
  rw [cell_of_row _ _ _ _ _ _ (heap_alloc_new w _), Nat.zero_add]
def kwL : List ByteArray := [⟨#[113, 117, 111, 116, 101]⟩, ⟨#[105, 102]⟩, ⟨#[100, 101, 102, 105, 110, 101]⟩, ⟨#[115, 101, 116, 33]⟩, ⟨#[108, 97, 109, 98, 100, 97]⟩, ⟨#[98, 101, 103, 105, 110]⟩, ⟨#[108, 101, 116]⟩, ⟨#[108, 101, 116, 42]⟩, ⟨#[108, 101, 116, 114, 101, 99]⟩, ⟨#[99, 111, 110, 100]⟩, ⟨#[101, 108, 115, 101]⟩, ⟨#[97, 110, 100]⟩, ⟨#[111, 114]⟩, ⟨#[119, 104, 101, 110]⟩, ⟨#[117, 110, 108, 101, 115, 115]⟩, ⟨#[100, 101, 102, 105, 110, 101, 45, 115, 121, 110, 116, 97, 120]⟩, ⟨#[115, 121, 110, 116, 97, 120, 45, 114, 117, 108, 101, 115]⟩]
theorem kwL_any (s : ByteArray) : inL kwL s = ((s.toList == [113, 117, 111, 116, 101]) || ((s.toList == [105, 102]) || ((s.toList == [100, 101, 102, 105, 110, 101]) || ((s.toList == [115, 101, 116, 33]) || ((s.toList == [108, 97, 109, 98, 100, 97]) || ((s.toList == [98, 101, 103, 105, 110]) || ((s.toList == [108, 101, 116]) || ((s.toList == [108, 101, 116, 42]) || ((s.toList == [108, 101, 116, 114, 101, 99]) || ((s.toList == [99, 111, 110, 100]) || ((s.toList == [101, 108, 115, 101]) || ((s.toList == [97, 110, 100]) || ((s.toList == [111, 114]) || ((s.toList == [119, 104, 101, 110]) || ((s.toList == [117, 110, 108, 101, 115, 115]) || ((s.toList == [100, 101, 102, 105, 110, 101, 45, 115, 121, 110, 116, 97, 120]) || ((s.toList == [115, 121, 110, 116, 97, 120, 45, 114, 117, 108, 101, 115])))))))))))))))))) := by
  simp only [inL, kwL, List.any_cons, List.any_nil, Bool.or_false]
  simp only [tl_lit, tl_swap s]

set_option maxHeartbeats 1000000 in
set_option maxRecDepth 100000 in
theorem specIsKeyword_any (s : ByteArray) (w : World) : Calls Try.prog 4 #[.string s] w fun e w' => e = .returned (.bool (inL kwL s)) ∧ Below w.heap.size w w' := by
  go_enter Try.func4, Try.ntmps4
  go_wp2_with fail
  refine (l4Has_any w.heap.size 0 17 kwL s _ ?_ (by decide)).mono ?_
  · intro i hi
    have hi' : i < 17 := hi
    rw [cell_new_row]
    match i, hi' with
    | 0, _ => exact rfl
    | 1, _ => exact rfl
    | 2, _ => exact rfl
    | 3, _ => exact rfl
    | 4, _ => exact rfl
    | 5, _ => exact rfl
    | 6, _ => exact rfl
    | 7, _ => exact rfl
    | 8, _ => exact rfl
    | 9, _ => exact rfl
    | 10, _ => exact rfl
    | 11, _ => exact rfl
    | 12, _ => exact rfl
    | 13, _ => exact rfl
    | 14, _ => exact rfl
    | 15, _ => exact rfl
    | 16, _ => exact rfl
    | n + 17, h => exact absurd h (by omega)
  rintro e w' ⟨rfl, rfl⟩
  obtain ⟨o, ho⟩ : ∃ o, o = inL kwL s := ⟨_, rfl⟩
  rw [← ho]
  have HO : Hid (o = inL kwL s) := ho
  clear ho
  go_wp2
  go_ret
  exact ⟨by rw [← HO.out]; rfl, (Below.refl _ _).alloc (Nat.le_refl _) _⟩

set_option maxHeartbeats 4000000 in
set_option maxRecDepth 100000 in
theorem implIsKeyword_any (s : ByteArray) (w : World) : Calls Try.prog 5 #[.string s] w fun e w' => e = .returned (.bool (inL kwL s)) ∧ w' = w := by
  rw [kwL_any]
  cases g0 : (s.toList == [113, 117, 111, 116, 101]) with
  | true =>
    go_enter Try.func5, Try.ntmps5
    go_wp2
    go_ret
    exact ⟨rfl, rfl⟩
  | false =>
  cases g1 : (s.toList == [105, 102]) with
  | true =>
    go_enter Try.func5, Try.ntmps5
    go_wp2
    go_ret
    exact ⟨rfl, rfl⟩
  | false =>
  cases g2 : (s.toList == [100, 101, 102, 105, 110, 101]) with
  | true =>
    go_enter Try.func5, Try.ntmps5
    go_wp2
    go_ret
    exact ⟨rfl, rfl⟩
  | false =>
  cases g3 : (s.toList == [115, 101, 116, 33]) with
  | true =>
    go_enter Try.func5, Try.ntmps5
    go_wp2
    go_ret
    exact ⟨rfl, rfl⟩
  | false =>
  cases g4 : (s.toList == [108, 97, 109, 98, 100, 97]) with
  | true =>
    go_enter Try.func5, Try.ntmps5
    go_wp2
    go_ret
    exact ⟨rfl, rfl⟩
  | false =>
  cases g5 : (s.toList == [98, 101, 103, 105, 110]) with
  | true =>
    go_enter Try.func5, Try.ntmps5
    go_wp2
    go_ret
    exact ⟨rfl, rfl⟩
  | false =>
  cases g6 : (s.toList == [108, 101, 116]) with
  | true =>
    go_enter Try.func5, Try.ntmps5
    go_wp2
    go_ret
    exact ⟨rfl, rfl⟩
  | false =>
  cases g7 : (s.toList == [108, 101, 116, 42]) with
  | true =>
    go_enter Try.func5, Try.ntmps5
    go_wp2
    go_ret
    exact ⟨rfl, rfl⟩
  | false =>
  cases g8 : (s.toList == [108, 101, 116, 114, 101, 99]) with
  | true =>
    go_enter Try.func5, Try.ntmps5
    go_wp2
    go_ret
    exact ⟨rfl, rfl⟩
  | false =>
  cases g9 : (s.toList == [99, 111, 110, 100]) with
  | true =>
    go_enter Try.func5, Try.ntmps5
    go_wp2
    go_ret
    exact ⟨rfl, rfl⟩
  | false =>
  cases g10 : (s.toList == [101, 108, 115, 101]) with
  | true =>
    go_enter Try.func5, Try.ntmps5
    go_wp2
    go_ret
    exact ⟨rfl, rfl⟩
  | false =>
  cases g11 : (s.toList == [97, 110, 100]) with
  | true =>
    go_enter Try.func5, Try.ntmps5
    go_wp2
    go_ret
    exact ⟨rfl, rfl⟩
  | false =>
  cases g12 : (s.toList == [111, 114]) with
  | true =>
    go_enter Try.func5, Try.ntmps5
    go_wp2
    go_ret
    exact ⟨rfl, rfl⟩
  | false =>
  cases g13 : (s.toList == [119, 104, 101, 110]) with
  | true =>
    go_enter Try.func5, Try.ntmps5
    go_wp2
    go_ret
    exact ⟨rfl, rfl⟩
  | false =>
  cases g14 : (s.toList == [117, 110, 108, 101, 115, 115]) with
  | true =>
    go_enter Try.func5, Try.ntmps5
    go_wp2
    go_ret
    exact ⟨rfl, rfl⟩
  | false =>
  cases g15 : (s.toList == [100, 101, 102, 105, 110, 101, 45, 115, 121, 110, 116, 97, 120]) with
  | true =>
    go_enter Try.func5, Try.ntmps5
    go_wp2
    go_ret
    exact ⟨rfl, rfl⟩
  | false =>
  cases g16 : (s.toList == [115, 121, 110, 116, 97, 120, 45, 114, 117, 108, 101, 115]) with
  | true =>
    go_enter Try.func5, Try.ntmps5
    go_wp2
    go_ret
    exact ⟨rfl, rfl⟩
  | false =>
  go_enter Try.func5, Try.ntmps5
  go_wp2
  go_ret
  exact ⟨rfl, rfl⟩

end Go.Proofs.Ytmpghgaijphniaa
