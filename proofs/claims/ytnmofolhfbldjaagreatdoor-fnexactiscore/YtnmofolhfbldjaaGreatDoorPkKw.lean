/-
  The texts Kw, StrMap, one behind the other.
-/
import Derived.Test.YtnmofolhfbldjaaGreatDoorRows
import Derived.WalkKit
import Derived.WideShapes
import Derived.OpenShut
import Derived.ChangeOld
import Derived.Below
import Derived.Great.BuildSlice
import Derived.Deep.LoopGhost
import Derived.MapKept

/-
  Rows of texts, a text looked for in one (spec.l4Has), and the keywords: what both IsKeyword answer.
-/
namespace Go.Proofs.YtnmofolhfbldjaaGreatDoor
open Go.RowKit
set_option linter.unusedVariables false

/-- A row of texts in memory, from a place on. -/
def KwAt (w : World) (b o : Nat) (l : List ByteArray) : Prop := ∀ i, i < l.length → w.cell? ⟨b, o + i, none⟩ = some (.string (l.getD i default))

theorem tx_eq {a b : ByteArray} (h : a = b) : (a.toList == b.toList) = true := by subst h; exact beq_self_eq_true _
theorem tx_ne {a b : ByteArray} (h : a ≠ b) : (a.toList == b.toList) = false := by
  rw [ByteArray.toList_eq, ByteArray.toList_eq, beq_eq_false_iff_ne]
  intro e
  apply h
  cases a; cases b
  simp only [ByteArray.mk.injEq] at *
  exact Array.toList_inj.1 e

/-- A text stands in a row. -/
def inL (l : List ByteArray) (s : ByteArray) : Bool := l.any (fun x => x.toList == s.toList)
theorem inL_take {l : List ByteArray} {s : ByteArray} {k : Nat} (hk : k < l.length) (h : inL (l.take k) s = false) (hne : ((l.getD k default).toList == s.toList) = false) : inL (l.take (k + 1)) s = false := by
  unfold inL at *
  rw [List.take_add_one, List.getElem?_eq_getElem hk, List.any_append, h, Bool.false_or]
  rw [List.getD, List.getElem?_eq_getElem hk] at hne
  simpa using hne
theorem inL_at {l : List ByteArray} {s : ByteArray} {k : Nat} (hk : k < l.length) (h : ((l.getD k default).toList == s.toList) = true) : inL l s = true := by
  unfold inL
  rw [List.any_eq_true]
  refine ⟨l.getD k default, ?_, h⟩
  simp [List.getD, List.getElem?_eq_getElem hk]

set_option maxHeartbeats 1000000 in
set_option maxRecDepth 100000 in
theorem l4Has_any (b o c : Nat) (l : List ByteArray) (s : ByteArray) (w : World) (hT : KwAt w b o l) (hl : l.length < 2 ^ 40) :
    Calls Tryz.prog 42 #[.slice (some ⟨b, o, none⟩) l.length c, .string s] w fun e w' => e = .returned (.bool (inL l s)) ∧ w' = w := by
  have HT : Hid (KwAt w b o l) := hT
  clear hT
  go_enter Tryz.func42, Tryz.ntmps42
  go_wp2_with fail
  go_loopg [9] l.length (fun g i wr => ∃ (k : Nat), g = l.length - k ∧ k ≤ l.length ∧ i = .int .i64 (k : Int) ∧ Hid (inL (l.take k) s = false) ∧ wr = w)
  case atStart => exact ⟨0, rfl, by omega, by go_num, rfl, rfl⟩
  case round =>
    obtain ⟨k, rfl, hk, rfl, HN, rfl⟩ := hrel
    by_cases h : k < l.length
    · have hc := HT.out k h
      obtain ⟨x, hx⟩ : ∃ x, x = l.getD k default := ⟨_, rfl⟩
      rw [← hx] at hc
      have HX : Hid (x = l.getD k default) := hx
      clear hx
      cases he : (x.toList == s.toList) with
      | true =>
        have HY : Hid (inL l s = true) := inL_at h (by rw [← HX.out]; exact he)
        go_wp2
        go_ret
        exact ⟨by rw [HY.out]; rfl, rfl⟩
      | false =>
        have HE : Hid (inL (l.take (k + 1)) s = false) := inL_take h HN.out (by rw [← HX.out]; exact he)
        go_wp2_with fail
        go_roundg (l.length - (k + 1))
        case measure => omega
        case rel => exact ⟨k + 1, rfl, by omega, by go_num, HE.out, rfl⟩
    · have HY : Hid (inL l s = false) := by
        have := HN.out
        rwa [List.take_of_length_le (by omega)] at this
      go_wp2
      go_ret
      exact ⟨by rw [HY.out]; rfl, rfl⟩

theorem tl_lit (x : Array UInt8) : (⟨x⟩ : ByteArray).toList = x.toList := by rw [ByteArray.toList_eq]
theorem tl_swap (s : ByteArray) (l : List UInt8) : (l == s.toList) = (s.toList == l) := Bool.beq_comm
theorem cell_new_row (w : World) (cs : Array Value) (t : TypeId) (i : Nat) : (w.alloc (.cells cs t)).cell? ⟨w.heap.size, 0 + i, none⟩ = cs[i]? := by
  rw [cell_of_row _ _ _ _ _ _ (heap_alloc_new w _), Nat.zero_add]
def kwL : List ByteArray := [⟨#[113, 117, 111, 116, 101]⟩, ⟨#[105, 102]⟩, ⟨#[100, 101, 102, 105, 110, 101]⟩, ⟨#[115, 101, 116, 33]⟩, ⟨#[108, 97, 109, 98, 100, 97]⟩, ⟨#[98, 101, 103, 105, 110]⟩, ⟨#[108, 101, 116]⟩, ⟨#[108, 101, 116, 42]⟩, ⟨#[108, 101, 116, 114, 101, 99]⟩, ⟨#[99, 111, 110, 100]⟩, ⟨#[101, 108, 115, 101]⟩, ⟨#[97, 110, 100]⟩, ⟨#[111, 114]⟩, ⟨#[119, 104, 101, 110]⟩, ⟨#[117, 110, 108, 101, 115, 115]⟩, ⟨#[100, 101, 102, 105, 110, 101, 45, 115, 121, 110, 116, 97, 120]⟩, ⟨#[115, 121, 110, 116, 97, 120, 45, 114, 117, 108, 101, 115]⟩]
theorem kwL_any (s : ByteArray) : inL kwL s = ((s.toList == [113, 117, 111, 116, 101]) || ((s.toList == [105, 102]) || ((s.toList == [100, 101, 102, 105, 110, 101]) || ((s.toList == [115, 101, 116, 33]) || ((s.toList == [108, 97, 109, 98, 100, 97]) || ((s.toList == [98, 101, 103, 105, 110]) || ((s.toList == [108, 101, 116]) || ((s.toList == [108, 101, 116, 42]) || ((s.toList == [108, 101, 116, 114, 101, 99]) || ((s.toList == [99, 111, 110, 100]) || ((s.toList == [101, 108, 115, 101]) || ((s.toList == [97, 110, 100]) || ((s.toList == [111, 114]) || ((s.toList == [119, 104, 101, 110]) || ((s.toList == [117, 110, 108, 101, 115, 115]) || ((s.toList == [100, 101, 102, 105, 110, 101, 45, 115, 121, 110, 116, 97, 120]) || ((s.toList == [115, 121, 110, 116, 97, 120, 45, 114, 117, 108, 101, 115])))))))))))))))))) := by
  simp only [inL, kwL, List.any_cons, List.any_nil, Bool.or_false]
  simp only [tl_lit, tl_swap s]

set_option maxHeartbeats 1000000 in
set_option maxRecDepth 100000 in
theorem specIsKeyword_any (s : ByteArray) (w : World) : Calls Tryz.prog 25 #[.string s] w fun e w' => e = .returned (.bool (inL kwL s)) ∧ Below w.heap.size w w' := by
  go_enter Tryz.func25, Tryz.ntmps25
  go_wp2_with fail
  refine (l4Has_any w.heap.size 0 17 kwL s _ ?_ (by decide)).mono ?_
  · intro i hi
    have hi' : i < 17 := hi
    rw [cell_new_row]
    match i, hi' with
    | 0, _ => exact rfl
    | 1, _ => exact rfl
    | 2, _ => exact rfl
    | 3, _ => exact rfl
    | 4, _ => exact rfl
    | 5, _ => exact rfl
    | 6, _ => exact rfl
    | 7, _ => exact rfl
    | 8, _ => exact rfl
    | 9, _ => exact rfl
    | 10, _ => exact rfl
    | 11, _ => exact rfl
    | 12, _ => exact rfl
    | 13, _ => exact rfl
    | 14, _ => exact rfl
    | 15, _ => exact rfl
    | 16, _ => exact rfl
    | n + 17, h => exact absurd h (by omega)
  rintro e w' ⟨rfl, rfl⟩
  obtain ⟨o, ho⟩ : ∃ o, o = inL kwL s := ⟨_, rfl⟩
  rw [← ho]
  have HO : Hid (o = inL kwL s) := ho
  clear ho
  go_wp2
  go_ret
  exact ⟨by rw [← HO.out]; rfl, (Below.refl _ _).alloc (Nat.le_refl _) _⟩

set_option maxHeartbeats 4000000 in
set_option maxRecDepth 100000 in
theorem implIsKeyword_any (s : ByteArray) (w : World) : Calls Tryz.prog 52 #[.string s] w fun e w' => e = .returned (.bool (inL kwL s)) ∧ w' = w := by
  rw [kwL_any]
  cases g0 : (s.toList == [113, 117, 111, 116, 101]) with
  | true =>
    go_enter Tryz.func52, Tryz.ntmps52
    go_wp2
    go_ret
    exact ⟨rfl, rfl⟩
  | false =>
  cases g1 : (s.toList == [105, 102]) with
  | true =>
    go_enter Tryz.func52, Tryz.ntmps52
    go_wp2
    go_ret
    exact ⟨rfl, rfl⟩
  | false =>
  cases g2 : (s.toList == [100, 101, 102, 105, 110, 101]) with
  | true =>
    go_enter Tryz.func52, Tryz.ntmps52
    go_wp2
    go_ret
    exact ⟨rfl, rfl⟩
  | false =>
  cases g3 : (s.toList == [115, 101, 116, 33]) with
  | true =>
    go_enter Tryz.func52, Tryz.ntmps52
    go_wp2
    go_ret
    exact ⟨rfl, rfl⟩
  | false =>
  cases g4 : (s.toList == [108, 97, 109, 98, 100, 97]) with
  | true =>
    go_enter Tryz.func52, Tryz.ntmps52
    go_wp2
    go_ret
    exact ⟨rfl, rfl⟩
  | false =>
  cases g5 : (s.toList == [98, 101, 103, 105, 110]) with
  | true =>
    go_enter Tryz.func52, Tryz.ntmps52
    go_wp2
    go_ret
    exact ⟨rfl, rfl⟩
  | false =>
  cases g6 : (s.toList == [108, 101, 116]) with
  | true =>
    go_enter Tryz.func52, Tryz.ntmps52
    go_wp2
    go_ret
    exact ⟨rfl, rfl⟩
  | false =>
  cases g7 : (s.toList == [108, 101, 116, 42]) with
  | true =>
    go_enter Tryz.func52, Tryz.ntmps52
    go_wp2
    go_ret
    exact ⟨rfl, rfl⟩
  | false =>
  cases g8 : (s.toList == [108, 101, 116, 114, 101, 99]) with
  | true =>
    go_enter Tryz.func52, Tryz.ntmps52
    go_wp2
    go_ret
    exact ⟨rfl, rfl⟩
  | false =>
  cases g9 : (s.toList == [99, 111, 110, 100]) with
  | true =>
    go_enter Tryz.func52, Tryz.ntmps52
    go_wp2
    go_ret
    exact ⟨rfl, rfl⟩
  | false =>
  cases g10 : (s.toList == [101, 108, 115, 101]) with
  | true =>
    go_enter Tryz.func52, Tryz.ntmps52
    go_wp2
    go_ret
    exact ⟨rfl, rfl⟩
  | false =>
  cases g11 : (s.toList == [97, 110, 100]) with
  | true =>
    go_enter Tryz.func52, Tryz.ntmps52
    go_wp2
    go_ret
    exact ⟨rfl, rfl⟩
  | false =>
  cases g12 : (s.toList == [111, 114]) with
  | true =>
    go_enter Tryz.func52, Tryz.ntmps52
    go_wp2
    go_ret
    exact ⟨rfl, rfl⟩
  | false =>
  cases g13 : (s.toList == [119, 104, 101, 110]) with
  | true =>
    go_enter Tryz.func52, Tryz.ntmps52
    go_wp2
    go_ret
    exact ⟨rfl, rfl⟩
  | false =>
  cases g14 : (s.toList == [117, 110, 108, 101, 115, 115]) with
  | true =>
    go_enter Tryz.func52, Tryz.ntmps52
    go_wp2
    go_ret
    exact ⟨rfl, rfl⟩
  | false =>
  cases g15 : (s.toList == [100, 101, 102, 105, 110, 101, 45, 115, 121, 110, 116, 97, 120]) with
  | true =>
    go_enter Tryz.func52, Tryz.ntmps52
    go_wp2
    go_ret
    exact ⟨rfl, rfl⟩
  | false =>
  cases g16 : (s.toList == [115, 121, 110, 116, 97, 120, 45, 114, 117, 108, 101, 115]) with
  | true =>
    go_enter Tryz.func52, Tryz.ntmps52
    go_wp2
    go_ret
    exact ⟨rfl, rfl⟩
  | false =>
  go_enter Tryz.func52, Tryz.ntmps52
  go_wp2
  go_ret
  exact ⟨rfl, rfl⟩

end Go.Proofs.YtnmofolhfbldjaaGreatDoor

/-
  Maps from texts in memory: what a look-up gives and what an update leaves.
-/
namespace Go.Proofs.YtnmofolhfbldjaaGreatDoor
open Go.RowKit
set_option linter.unusedVariables false

/-- A map from texts: its keys and values, in the order in which they came. -/
def StrMap (w : World) (r : Nat) (m : List (ByteArray × Value)) : Prop :=
  ∃ es clock, w.heap[r]? = some (.map es clock) ∧ es.toList.map (fun e => (e.key, e.val)) = m.map (fun p => (Value.string p.1, p.2))

def getM : List (ByteArray × Value) → ByteArray → Option Value
  | [], _ => none
  | (k, v) :: m, s => if k.toList == s.toList then some v else getM m s
def putM : List (ByteArray × Value) → ByteArray → Value → List (ByteArray × Value)
  | [], s, x => [(s, x)]
  | (k, v) :: m, s, x => if k.toList == s.toList then (s, x) :: m else (k, v) :: putM m s x

theorem tx_of {a b : ByteArray} (h : (a.toList == b.toList) = true) : a = b := by
  by_cases e : a = b
  · exact e
  · rw [tx_ne e] at h; cases h

theorem getM_in (m : List (ByteArray × Value)) (s : ByteArray) : (getM m s).isSome = inL (m.map (·.1)) s := by
  induction m with
  | nil => rfl
  | cons p m ih =>
    obtain ⟨k, v⟩ := p
    rw [getM]
    unfold inL at *
    rw [List.map_cons, List.any_cons]
    cases h : (k.toList == s.toList) with
    | true => simp
    | false => simp only [Bool.false_or]; rw [← ih]; simp

theorem find_m (s : ByteArray) : ∀ (l : List MapEntry) (m : List (ByteArray × Value)) (i : Nat), l.map (fun e => (e.key, e.val)) = m.map (fun p => (Value.string p.1, p.2)) →
    (getM m s = none → Instr.findNow .string (.string s) l i = some none) ∧
    (∀ v, getM m s = some v → ∃ j e, Instr.findNow .string (.string s) l i = some (some (i + j, v)) ∧ l[j]? = some e ∧ e.key = .string s ∧ ∀ x, (l.modify j fun e => { e with key := .string s, val := x }).map (fun e => (e.key, e.val)) = (putM m s x).map (fun p => (Value.string p.1, p.2)))
  | [], m, i, h => by
    cases m with
    | nil => exact ⟨fun _ => rfl, fun v h => by cases h⟩
    | cons k ks => simp at h
  | e :: l, [], i, h => by simp at h
  | e :: l, (k, v) :: m, i, h => by
    simp only [List.map_cons, List.cons.injEq, Prod.mk.injEq] at h
    obtain ⟨⟨h1, h3⟩, h2⟩ := h
    have ih := find_m s l m (i + 1) h2
    have hs : Instr.sameNow .string (.string s) e.key = some (s == k) := by rw [h1]; rfl
    by_cases hk : k = s
    · subst hk
      have hb : (k == k) = true := (MapKept.bytes_beq k k).2 rfl
      have ht : (k.toList == k.toList) = true := beq_self_eq_true _
      have hg : getM ((k, v) :: m) k = some v := by rw [getM, if_pos ht]
      refine ⟨fun h => (by rw [hg] at h; cases h), fun v' hv => ⟨0, e, ?_, rfl, h1, fun x => ?_⟩⟩
      · rw [hg] at hv
        injection hv with hv
        subst hv
        unfold Instr.findNow
        rw [hs, hb, h3]; rfl
      · rw [putM, if_pos ht]
        simp [h2]
    · have hb : (s == k) = false := by
        cases hh : (s == k) with
        | false => rfl
        | true => exact absurd ((MapKept.bytes_beq s k).1 hh).symm hk
      have ht : ¬ (k.toList == s.toList) = true := by rw [tx_ne hk]; simp
      have hf : Instr.findNow .string (.string s) (e :: l) i = Instr.findNow .string (.string s) l (i + 1) := by
        conv => lhs; unfold Instr.findNow
        rw [hs, hb]
      rw [hf, getM, if_neg ht]
      refine ⟨ih.1, fun v' hv => ?_⟩
      obtain ⟨j, e', g1, g2, g3, g4⟩ := ih.2 v' hv
      refine ⟨j + 1, e', by rw [g1, Nat.add_assoc, Nat.add_comm 1 j], by simpa using g2, g3, fun x => ?_⟩
      rw [putM, if_neg ht, List.modify_succ_cons, List.map_cons, List.map_cons, g4 x, h1, h3]

theorem putM_new (s : ByteArray) (x : Value) : ∀ (m : List (ByteArray × Value)), getM m s = none → putM m s x = m ++ [(s, x)]
  | [], _ => rfl
  | (k, v) :: m, h => by
    rw [getM] at h
    rw [putM]
    split at h
    · cases h
    · next hn => rw [if_neg hn, putM_new s x m h]; rfl

theorem StrMap.made (w : World) : StrMap (w.alloc (.map #[] 0)) w.heap.size [] := ⟨#[], 0, heap_alloc_new _ _, rfl⟩
theorem StrMap.lt {w : World} {r : Nat} {m : List (ByteArray × Value)} (h : StrMap w r m) : r < w.heap.size := by
  obtain ⟨es, c, h, _⟩ := h
  exact (Array.getElem?_eq_some_iff.1 h).1
theorem StrMap.below {w w' : World} {r B : Nat} {m : List (ByteArray × Value)} (h : StrMap w r m) (hg : Below B w w') (hr : r < B) : StrMap w' r m := by
  obtain ⟨es, c, h1, h2⟩ := h
  exact ⟨es, c, by rw [hg.block r hr]; exact h1, h2⟩
theorem StrMap.grown {w w' : World} {r : Nat} {k : Option Nat} {m : List (ByteArray × Value)} (h : StrMap w r m) (hg : w.grownBy w' k) (hr : some r ≠ k) : StrMap w' r m := by
  have hl := h.lt
  obtain ⟨es, c, h1, h2⟩ := h
  exact ⟨es, c, by rw [hg.block r hl hr]; exact h1, h2⟩
theorem StrMap.alloc {w : World} {r : Nat} {m : List (ByteArray × Value)} (h : StrMap w r m) (o : Obj) : StrMap (w.alloc o) r m := by
  have hl := h.lt
  obtain ⟨es, c, h1, h2⟩ := h
  exact ⟨es, c, by rw [Below.heap_alloc w _ _ hl]; exact h1, h2⟩

/-- A look-up. -/
theorem look_str {w : World} (t kt et : TypeId) (ht : Tryz.prog.underlying t = some (.map kt et)) (hkt : Tryz.prog.underlying kt = some .string) (z : Value) (hz : (zeroValue et).run Tryz.prog w = .ok z w)
    (r : Nat) (s : ByteArray) (m : List (ByteArray × Value)) (hM : StrMap w r m) :
    (Instr.lookup t (.map (some r)) (.string s) true).run Tryz.prog w = .ok (.tuple #[(getM m s).getD z, .bool (getM m s).isSome]) w ∧
    (Instr.lookup t (.map (some r)) (.string s) false).run Tryz.prog w = .ok ((getM m s).getD z) w := by
  obtain ⟨es, clock, hb, hkeys⟩ := hM
  have hc : ∀ b, (Instr.checkKey b 10000 kt (.string s)).run Tryz.prog w = .ok () w := fun b => MapKept.run_checkKey (k := .string s) hkt (by simp [MapKept.IsKey]) b 9999
  cases hin : getM m s with
  | none =>
    have hf := (find_m s es.toList m 0 hkeys).1 hin
    constructor
    · simp [Instr.lookup, run_underlying ht, MapKept.run_getObj_map hb, hc, MapKept.run_findKey hkt hf, hz, Result.andThen]
    · simp [Instr.lookup, run_underlying ht, MapKept.run_getObj_map hb, hc, MapKept.run_findKey hkt hf, hz, Result.andThen]
  | some v =>
    obtain ⟨j, e, hf, _⟩ := (find_m s es.toList m 0 hkeys).2 v hin
    constructor
    · simp [Instr.lookup, run_underlying ht, MapKept.run_getObj_map hb, hc, MapKept.run_findKey hkt hf, Result.andThen]
    · simp [Instr.lookup, run_underlying ht, MapKept.run_getObj_map hb, hc, MapKept.run_findKey hkt hf, Result.andThen]

/-- An update. -/
theorem upd_str {w : World} (t kt et : TypeId) (ht : Tryz.prog.underlying t = some (.map kt et)) (hkt : Tryz.prog.underlying kt = some .string) (r : Nat) (s : ByteArray) (x : Value)
    (m : List (ByteArray × Value)) (hM : StrMap w r m) :
    ∃ w', (Instr.mapUpdate t (.map (some r)) (.string s) x).run Tryz.prog w = .ok () w' ∧ StrMap w' r (putM m s x) ∧ w.grownBy w' (some r) ∧ w'.heap.size = w.heap.size := by
  obtain ⟨es, clock, hb, hkeys⟩ := hM
  have hc : (Instr.checkKey false 10000 kt (.string s)).run Tryz.prog w = .ok () w := MapKept.run_checkKey (k := .string s) hkt (by simp [MapKept.IsKey]) false 9999
  cases hin : getM m s with
  | none =>
    have hf := (find_m s es.toList m 0 hkeys).1 hin
    refine ⟨{ w with heap := w.heap.setIfInBounds r (.map (es.push { key := .string s, val := x, born := clock }) (clock + 1)) }, ?_, ?_, ⟨rfl, rfl, rfl, by simp, fun j _ hne => ?_⟩, by simp⟩
    · simp [Instr.mapUpdate, run_underlying ht, MapKept.run_getObj_map hb, hc, MapKept.run_findKey hkt hf, MapKept.run_setObj_map _ hb, Result.andThen]
    · exact ⟨es.push { key := .string s, val := x, born := clock }, clock + 1, (MapKept.heap_set hb).1, by simp [hkeys, putM_new s x m hin]⟩
    · exact (MapKept.heap_set hb).2 j (fun e => hne (by rw [e]))
  | some v =>
    obtain ⟨j, e, hf, he, hk, hm⟩ := (find_m s es.toList m 0 hkeys).2 v hin
    rw [Nat.zero_add] at hf
    have hj : es[j]? = some e := by simpa using he
    have hks : (Instr.keyThatStays (.string s) (.string s)).run Tryz.prog w = .ok (.string s) w := MapKept.run_keyThatStays (d := .string) (by simp [MapKept.IsKey])
    refine ⟨{ w with heap := w.heap.setIfInBounds r (.map (es.modify j fun e => { e with key := .string s, val := x }) clock) }, ?_, ?_, ⟨rfl, rfl, rfl, by simp, fun j _ hne => ?_⟩, by simp⟩
    · simp [Instr.mapUpdate, run_underlying ht, MapKept.run_getObj_map hb, hc, MapKept.run_findKey hkt hf, hj, hk, hks, MapKept.run_setObj_map _ hb, Result.andThen]
    · exact ⟨es.modify j fun e => { e with key := .string s, val := x }, clock, (MapKept.heap_set hb).1, by rw [← hm x]; simp⟩
    · exact (MapKept.heap_set hb).2 j (fun e => hne (by rw [e]))
end Go.Proofs.YtnmofolhfbldjaaGreatDoor
