/-
  The texts FormRead, CoreImpl, CoreHead, CoreP, FormOps, CoreParams, ShapeP, CoreFrom, AllCore, Twice, one behind the other.
-/
import Derived.Test.YtnmofolhfbldjaaGreatDoorPkIrWord
import Derived.Test.YtnmofolhfbldjaaGreatDoorPkKw
import Derived.Test.YtnmofolhfbldjaaGreatDoorPkFormsTree

/-
  Forms in memory are read; which trees are core forms (plain).
-/
namespace Go.Proofs.YtnmofolhfbldjaaGreatDoor
open Go.RowKit
set_option linter.unusedVariables false

/-- The i-th form of a row. -/
theorem trsC_get {w : World} {T : TypeId} {P : Nat → Prop} : ∀ (As : List Tr) (xs : List Value), trsC w T P As xs → ∀ i, i < As.length →
    ∃ k t ks z ys, As[i]? = some (.mk k t ks) ∧ xs[i * 3]? = some (.int .i64 k) ∧ xs[i * 3 + 1]? = some (.string t) ∧ xs[i * 3 + 2]? = some z ∧ RowIn w T P z ys ∧ trsC w T P ks ys
  | [], xs, h, i, hi => by simp at hi
  | (.mk k t ks) :: As, xs, h, 0, hi => by
    rw [trsC] at h
    obtain ⟨a, b, h1, h2, h3⟩ := h
    rw [Tr.cells] at h2
    obtain ⟨z, ys, h4, h5, h6⟩ := h2
    subst h4
    subst h1
    exact ⟨k, t, ks, z, ys, rfl, rfl, rfl, rfl, h5, h6⟩
  | (.mk k t ks) :: As, xs, h, i + 1, hi => by
    rw [trsC] at h
    obtain ⟨a, b, h1, h2, h3⟩ := h
    have ha := cells_len _ _ h2
    obtain ⟨k', t', ks', z, ys, g1, g2, g3, g4, g5, g6⟩ := trsC_get As b h3 i (by simpa using hi)
    subst h1
    refine ⟨k', t', ks', z, ys, by simpa using g1, ?_, ?_, ?_, g5, g6⟩
    · rw [List.getElem?_append_right (by omega), show (i + 1) * 3 - a.length = i * 3 by omega]; exact g2
    · rw [List.getElem?_append_right (by omega), show (i + 1) * 3 + 1 - a.length = i * 3 + 1 by omega]; exact g3
    · rw [List.getElem?_append_right (by omega), show (i + 1) * 3 + 2 - a.length = i * 3 + 2 by omega]; exact g4

/-- A row of forms, to be read. -/
def RowRd (w : World) (T : TypeId) (z : Value) (As : List Tr) : Prop := ∃ ys, RowIn w T (fun g => g < w.heap.size) z ys ∧ trsC w T (fun g => g < w.heap.size) As ys

theorem RowRd.len {w : World} {T : TypeId} {z : Value} {As : List Tr} (h : RowRd w T z As) : ∃ o cap, z = .slice o As.length cap := by
  obtain ⟨ys, h1, h2⟩ := h
  have hl := trsC_len As ys h2
  rcases h1 with ⟨rfl, rfl⟩ | ⟨g, n, cap, cur, rfl, _, _, h5, _⟩
  · have : As.length = 0 := by simp at hl; omega
    exact ⟨none, 0, by rw [this]⟩
  · have : n = As.length := by omega
    exact ⟨_, _, by rw [this]⟩
theorem RowRd.below {w w' : World} {T : TypeId} {z : Value} {As : List Tr} (h : RowRd w T z As) (hB : Below w.heap.size w w') : RowRd w' T z As := by
  obtain ⟨ys, h1, h2⟩ := h
  have hm : ∀ g, g < w.heap.size → g < w'.heap.size ∧ ∀ o, w.heap[g]? = some o → w'.heap[g]? = some o := fun g hg => ⟨Nat.lt_of_lt_of_le hg hB.size, fun o ho => by rw [hB.block g hg]; exact ho⟩
  exact ⟨ys, h1.mono hm, trsC_mono hm As ys h2⟩
/-- The i-th form's cells. -/
theorem RowRd.at {w : World} {T : TypeId} {z : Value} {As : List Tr} (h : RowRd w T z As) (i : Nat) (hi : i < As.length) :
    ∃ g cap k t ks z', z = .slice (some ⟨g, 0, none⟩) As.length cap ∧ As[i]? = some (.mk k t ks) ∧ w.cell? ⟨g, i * 3, none⟩ = some (.int .i64 k) ∧ w.cell? ⟨g, i * 3 + 1, none⟩ = some (.string t) ∧ w.cell? ⟨g, i * 3 + 2, none⟩ = some z' ∧ RowRd w T z' ks := by
  obtain ⟨ys, h1, h2⟩ := h
  have hl := trsC_len As ys h2
  obtain ⟨k, t, ks, z', ys', g1, g2, g3, g4, g5, g6⟩ := trsC_get As ys h2 i hi
  rcases h1 with ⟨rfl, rfl⟩ | ⟨g, n, cap, cur, rfl, _, hg, h5, h6, _⟩
  · simp at hl; omega
  · have hn : n = As.length := by omega
    subst hn
    have key : ∀ j, j < As.length * 3 → cur[j]? = ys[j]? := fun j hj => by
      rw [← h6, List.getElem?_take, if_pos hj]; simp
    refine ⟨g, cap, k, t, ks, z', rfl, g1, ?_, ?_, ?_, ⟨ys', g5, g6⟩⟩
    · rw [cell_of_row w g _ _ _ _ hg, key _ (by omega)]; exact g2
    · rw [cell_of_row w g _ _ _ _ hg, key _ (by omega)]; exact g3
    · rw [cell_of_row w g _ _ _ _ hg, key _ (by omega)]; exact g4

/-- Some forms of a row, to be read. -/
def RowO (w : World) (T : TypeId) (z : Value) (As : List Tr) : Prop :=
  (z = .slice none 0 0 ∧ As = []) ∨ ∃ g cap pre post cap0, z = .slice (some ⟨g, pre.length * 3, none⟩) As.length cap ∧ As.length ≤ cap ∧ RowRd w T (.slice (some ⟨g, 0, none⟩) (pre ++ As ++ post).length cap0) (pre ++ As ++ post)

theorem RowRd.rowO {w : World} {T : TypeId} {z : Value} {As : List Tr} (h : RowRd w T z As) : RowO w T z As := by
  have h0 := h
  obtain ⟨ys, h1, h2⟩ := h
  have hl := trsC_len As ys h2
  rcases h1 with ⟨rfl, rfl⟩ | ⟨g, n, cap, cur, rfl, _, hg, h5, h6, h7⟩
  · have : As = [] := List.length_eq_zero_iff.1 (by simp at hl; omega)
    exact .inl ⟨rfl, this⟩
  · have hn : n = As.length := by omega
    subst hn
    refine .inr ⟨g, cap, [], [], cap, rfl, h7, ?_⟩
    rw [List.nil_append, List.append_nil]
    exact h0
theorem RowO.below {w w' : World} {T : TypeId} {z : Value} {As : List Tr} (h : RowO w T z As) (hB : Below w.heap.size w w') : RowO w' T z As := by
  rcases h with h | ⟨g, cap, pre, post, cap0, h1, h2, h3⟩
  · exact .inl h
  · exact .inr ⟨g, cap, pre, post, cap0, h1, h2, h3.below hB⟩
theorem RowO.len {w : World} {T : TypeId} {z : Value} {As : List Tr} (h : RowO w T z As) : ∃ o cap, z = .slice o As.length cap := by
  rcases h with ⟨h1, rfl⟩ | ⟨g, cap, pre, post, cap0, h1, h2, h3⟩
  · exact ⟨none, 0, h1⟩
  · exact ⟨_, _, h1⟩
/-- The i-th form's cells. -/
theorem RowO.at {w : World} {T : TypeId} {z : Value} {As : List Tr} (h : RowO w T z As) (i : Nat) (hi : i < As.length) :
    ∃ g off cap k t ks z', z = .slice (some ⟨g, off, none⟩) As.length cap ∧ As[i]? = some (.mk k t ks) ∧ w.cell? ⟨g, off + i * 3, none⟩ = some (.int .i64 k) ∧ w.cell? ⟨g, off + i * 3 + 1, none⟩ = some (.string t) ∧ w.cell? ⟨g, off + i * 3 + 2, none⟩ = some z' ∧ RowRd w T z' ks := by
  rcases h with ⟨_, rfl⟩ | ⟨g, cap, pre, post, cap0, h1, h2, h3⟩
  · simp at hi
  · obtain ⟨g', cap', k, t, ks, z', e1, e2, e3, e4, e5, e6⟩ := h3.at (pre.length + i) (by rw [List.length_append, List.length_append]; omega)
    injection e1 with e1 _ _
    injection e1 with e1
    injection e1 with e1
    subst e1
    have hx : (pre.length + i) * 3 = pre.length * 3 + i * 3 := by omega
    rw [hx] at e3 e4 e5
    rw [List.append_assoc, List.getElem?_append_right (by omega), Nat.add_sub_cancel_left, List.getElem?_append_left hi] at e2
    exact ⟨g, pre.length * 3, cap, k, t, ks, z', h1, e2, e3, e4, e5, e6⟩
theorem addr_mid (g o n : Nat) : (⟨g, o, none⟩ : Addr).add n = ⟨g, o + n, none⟩ := by unfold Addr.add; split <;> simp_all
/-- A row from one on. -/
theorem RowO.from {w : World} {T S : TypeId} {z : Value} {As : List Tr} (h : RowO w T z As) (hS : Tryz.prog.underlying S = some (.slice T)) (h3 : (Tryz.prog.info? T).map (·.size) = some 3) (m : Nat) (hm : m ≤ As.length) :
    ∃ z', (∀ w' : World, (Instr.sliceAt S z (some (.int .i64 (m : Int))) none none).run Tryz.prog w' = .ok z' w') ∧ RowO w T z' (As.drop m) := by
  have hsz : ∀ w' : World, (sizeOf T).run Tryz.prog w' = .ok 3 w' := fun w' => by
    cases hq : Tryz.prog.info? T with
    | none => simp [hq] at h3
    | some i => simp [hq] at h3; simp [sizeOf, typeInfo, hq, h3]
  have key : ∀ (o : Option Addr) (cap : Nat) (w' : World), (Instr.sliceAt S (.slice o As.length cap) (some (.int .i64 (m : Int))) none none).run Tryz.prog w' = .ok (.slice (if cap = m then o else o.map (·.add (m * 3))) (As.length - m) (cap - m)) w' := fun o cap w' => by
    simp [Instr.sliceAt, Instr.slice, run_underlying hS, Instr.sliceBounds, Instr.sliceBound, asIntOf, hm, hsz, Result.andThen]
  rcases h with ⟨rfl, rfl⟩ | ⟨g, cap, pre, post, cap0, rfl, h2, h4⟩
  · have : m = 0 := by simpa using hm
    subst this
    exact ⟨_, key none 0, .inl ⟨rfl, by simp⟩⟩
  · refine ⟨_, key _ cap, ?_⟩
    by_cases hc : cap = m
    · have hl : As.length = m := by omega
      refine .inr ⟨g, cap - m, pre, As ++ post, cap0, ?_, ?_, ?_⟩
      · rw [if_pos hc, List.length_drop]
      · rw [List.length_drop]; omega
      · rw [List.drop_eq_nil_of_le (by omega), List.append_nil, ← List.append_assoc]; exact h4
    · refine .inr ⟨g, cap - m, pre ++ As.take m, post, cap0, ?_, ?_, ?_⟩
      · rw [if_neg hc, List.length_drop, Option.map_some, addr_mid, List.length_append, List.length_take, Nat.min_eq_left hm, Nat.add_mul]
      · rw [List.length_drop]; omega
      · rw [List.append_assoc pre, List.take_append_drop]; exact h4

def Tr.k : Tr → Int | .mk k _ _ => k
def Tr.t : Tr → ByteArray | .mk _ t _ => t
def Tr.ks : Tr → List Tr | .mk _ _ ks => ks
instance : Inhabited Tr := ⟨.mk 0 ⟨#[]⟩ []⟩

/-- A symbol that is no keyword. -/
def isVar (T : Tr) : Bool := decide (T.k = 2) && !inL kwL T.t
/-- Names that are symbols, no keywords, no two alike. -/
def namesOk : List Tr → List ByteArray → Bool
  | [], _ => true
  | A :: As, met => isVar A && (!inL met A.t && namesOk As (met ++ [A.t]))
def paramsOk (T : Tr) : Bool := if T.k = 2 then isVar T else (decide (T.k = 5) || decide (T.k = 6)) && namesOk T.ks []
/-- From which part on the parts of a form must be core forms, if it has the shape of one. -/
def shapeP (T : Tr) : Option Nat :=
  if T.k = 2 then (if inL kwL T.t then none else some 0)
  else if T.k = 6 then none
  else if T.k ≠ 5 then some 0
  else match T.ks with
    | [] => none
    | A :: As =>
      if ¬ (A.k = 2 ∧ inL kwL A.t = true) then some 0
      else if A.t.toList == [113, 117, 111, 116, 101] then (if As.length = 1 then some 2 else none)
      else if A.t.toList == [105, 102] then (if As.length = 3 then some 1 else none)
      else if (A.t.toList == [100, 101, 102, 105, 110, 101]) || (A.t.toList == [115, 101, 116, 33]) then (if As.length = 2 ∧ isVar (As.getD 0 default) = true then some 2 else none)
      else if A.t.toList == [108, 97, 109, 98, 100, 97] then (if As.length = 2 ∧ paramsOk (As.getD 0 default) = true then some 2 else none)
      else if A.t.toList == [98, 101, 103, 105, 110] then (if 1 ≤ As.length then some 1 else none)
      else none
end Go.Proofs.YtnmofolhfbldjaaGreatDoor

/-
  What isVariable of impl's forms and l4Name of the model answer.
-/
namespace Go.Proofs.YtnmofolhfbldjaaGreatDoor
open Go.RowKit
set_option linter.unusedVariables false

set_option maxHeartbeats 1000000 in
theorem isVariable_any (k : Int) (t : ByteArray) (z : Value) (ks : List Tr) (w : World) :
    Calls Tryz.prog 49 #[.agg (fmC k t z)] w fun e w' => e = .returned (.bool (isVar (.mk k t ks))) ∧ Below w.heap.size w w' := by
  have hR := RowAt.new w 58 (fmC k t z)
  have c0 : (w.alloc (.cells (fmC k t z) 58)).cell? ⟨w.heap.size, 0, none⟩ = some (.int .i64 k) := by rw [cell_of_row _ _ _ _ _ _ hR]; rfl
  have c1 : (w.alloc (.cells (fmC k t z) 58)).cell? ⟨w.heap.size, 1, none⟩ = some (.string t) := by rw [cell_of_row _ _ _ _ _ _ hR]; rfl
  have hB : Below w.heap.size w (w.alloc (.cells (fmC k t z) 58)) := (Below.refl _ _).alloc (Nat.le_refl _) _
  clear hR
  by_cases hk : k = 2
  · have hkb : (k == 2) = true := by simp [hk]
    have HE : Hid (isVar (.mk k t ks) = !inL kwL t) := by unfold Hid isVar Tr.k Tr.t; simp [hk]
    clear hk
    go_enter Tryz.func49, Tryz.ntmps49
    go_wp2_with fail
    refine (implIsKeyword_any t _).mono ?_
    rintro e w' ⟨rfl, rfl⟩
    obtain ⟨b, hb⟩ : ∃ b, b = inL kwL t := ⟨_, rfl⟩
    rw [← hb]
    have HB2 : Hid (b = inL kwL t) := hb
    clear hb
    cases b with
    | true =>
      go_wp2
      go_ret
      exact ⟨by rw [HE.out, ← HB2.out]; rfl, hB⟩
    | false =>
      go_wp2
      go_ret
      exact ⟨by rw [HE.out, ← HB2.out]; rfl, hB⟩
  · have hkb : (k == 2) = false := by simp [hk]
    have HE : Hid (isVar (.mk k t ks) = false) := by unfold Hid isVar Tr.k Tr.t; simp [hk]
    clear hk
    go_enter Tryz.func49, Tryz.ntmps49
    go_wp2
    go_ret
    exact ⟨by rw [HE.out]; rfl, hB⟩

set_option maxHeartbeats 1000000 in
theorem l4Name_any (k : Int) (t : ByteArray) (z : Value) (ks : List Tr) (w : World) :
    Calls Tryz.prog 26 #[.agg (fmC k t z)] w fun e w' => e = .returned (.bool (isVar (.mk k t ks))) ∧ Below w.heap.size w w' := by
  have hR := RowAt.new w 29 (fmC k t z)
  have c0 : (w.alloc (.cells (fmC k t z) 29)).cell? ⟨w.heap.size, 0, none⟩ = some (.int .i64 k) := by rw [cell_of_row _ _ _ _ _ _ hR]; rfl
  have c1 : (w.alloc (.cells (fmC k t z) 29)).cell? ⟨w.heap.size, 1, none⟩ = some (.string t) := by rw [cell_of_row _ _ _ _ _ _ hR]; rfl
  have hB : Below w.heap.size w (w.alloc (.cells (fmC k t z) 29)) := (Below.refl _ _).alloc (Nat.le_refl _) _
  clear hR
  by_cases hk : k = 2
  · have hkb : (k == 2) = true := by simp [hk]
    have HE : Hid (isVar (.mk k t ks) = !inL kwL t) := by unfold Hid isVar Tr.k Tr.t; simp [hk]
    clear hk
    go_enter Tryz.func26, Tryz.ntmps26
    go_wp2_with fail
    refine (specIsKeyword_any t _).mono ?_
    rintro e w1 ⟨rfl, hW1⟩
    have hB1 : Below w.heap.size w w1 := hB.trans (hW1.mono (by simp))
    obtain ⟨b, hb⟩ : ∃ b, b = inL kwL t := ⟨_, rfl⟩
    rw [← hb]
    have HB2 : Hid (b = inL kwL t) := hb
    clear hb hB hW1 c0 c1
    cases b with
    | true =>
      go_wp2
      go_ret
      exact ⟨by rw [HE.out, ← HB2.out]; rfl, hB1⟩
    | false =>
      go_wp2
      go_ret
      exact ⟨by rw [HE.out, ← HB2.out]; rfl, hB1⟩
  · have hkb : (k == 2) = false := by simp [hk]
    have HE : Hid (isVar (.mk k t ks) = false) := by unfold Hid isVar Tr.k Tr.t; simp [hk]
    clear hk
    go_enter Tryz.func26, Tryz.ntmps26
    go_wp2
    go_ret
    exact ⟨by rw [HE.out]; rfl, hB⟩
end Go.Proofs.YtnmofolhfbldjaaGreatDoor

/-
  What head of impl's forms answers.
-/
namespace Go.Proofs.YtnmofolhfbldjaaGreatDoor
open Go.RowKit
set_option linter.unusedVariables false

/-- The symbol that a list begins with, or no text. -/
def headP (T : Tr) : ByteArray := if T.k = 5 then (match T.ks with | [] => ⟨#[]⟩ | A :: _ => if A.k = 2 then A.t else ⟨#[]⟩) else ⟨#[]⟩
def headOk (T : Tr) : Bool := if T.k = 5 then (match T.ks with | [] => false | A :: _ => decide (A.k = 2)) else false

set_option maxHeartbeats 1000000 in
theorem head_any (k : Int) (t : ByteArray) (z : Value) (ks : List Tr) (w : World) (hK : RowRd w 58 z ks) (h300 : ks.length ≤ 300) :
    Calls Tryz.prog 50 #[.agg (fmC k t z)] w fun e w' => e = .returned (.tuple #[.string (headP (.mk k t ks)), .bool (headOk (.mk k t ks))]) ∧ Below w.heap.size w w' := by
  have hR := RowAt.new w 58 (fmC k t z)
  have c0 : (w.alloc (.cells (fmC k t z) 58)).cell? ⟨w.heap.size, 0, none⟩ = some (.int .i64 k) := by rw [cell_of_row _ _ _ _ _ _ hR]; rfl
  have c2 : (w.alloc (.cells (fmC k t z) 58)).cell? ⟨w.heap.size, 2, none⟩ = some z := by rw [cell_of_row _ _ _ _ _ _ hR]; rfl
  have hB : Below w.heap.size w (w.alloc (.cells (fmC k t z) 58)) := (Below.refl _ _).alloc (Nat.le_refl _) _
  have hK2 := hK.below hB
  obtain ⟨o, cap, hzz⟩ := hK.len
  obtain ⟨n, hn⟩ : ∃ n, n = ks.length := ⟨_, rfl⟩
  rw [← hn] at hzz h300
  subst hzz
  have HK := hideT' hK2
  have HNN := hideT' hn
  clear hR hK hK2 hn
  by_cases hk : k = 5
  · have hkb : (k != 5) = false := by simp [hk]
    cases ks with
    | nil =>
      have H1 : Hid (headP (.mk k t []) = ⟨#[]⟩ ∧ headOk (.mk k t []) = false) := by unfold Hid headP headOk Tr.k Tr.ks; simp [hk]
      have hn0 : n = 0 := HNN.out
      subst hn0
      clear hk
      go_enter Tryz.func50, Tryz.ntmps50
      go_wp2
      go_ret2
      exact ⟨by rw [H1.out.1, H1.out.2]; rfl, hB⟩
    | cons A As =>
      obtain ⟨g, cap', k1, t1, ks1, z1, hz, hA, d0, d1, d2, hr⟩ := HK.out.at 0 (by simp)
      injection hz with hz1 hz2 hz3
      subst hz1
      have hA' : A = .mk k1 t1 ks1 := by simpa using hA
      subst hA'
      simp only [Nat.zero_mul, Nat.zero_add] at d0 d1 d2
      have hlp : (0 : Int) < (n : Int) := by have := HNN.out; simp at this; omega
      have hlb : ((n : Int) == 0) = false := by rw [beq_eq_false_iff_ne]; omega
      by_cases h2 : k1 = 2
      · have h2b : (k1 != 2) = false := by simp [h2]
        have H1 : Hid (headP (.mk k t (.mk k1 t1 ks1 :: As)) = t1 ∧ headOk (.mk k t (.mk k1 t1 ks1 :: As)) = true) := by unfold Hid headP headOk Tr.k Tr.ks Tr.t; simp [hk, h2]
        clear hk h2 hA hr d2 hz2 hz3
        go_enter Tryz.func50, Tryz.ntmps50
        go_wp2
        go_ret2
        exact ⟨by rw [H1.out.1, H1.out.2]; rfl, hB⟩
      · have h2b : (k1 != 2) = true := by simp [h2]
        have H1 : Hid (headP (.mk k t (.mk k1 t1 ks1 :: As)) = ⟨#[]⟩ ∧ headOk (.mk k t (.mk k1 t1 ks1 :: As)) = false) := by unfold Hid headP headOk Tr.k Tr.ks Tr.t; simp [hk, h2]
        clear hk h2 hA hr d2 hz2 hz3
        go_enter Tryz.func50, Tryz.ntmps50
        go_wp2
        go_ret2
        exact ⟨by rw [H1.out.1, H1.out.2]; rfl, hB⟩
  · have hkb : (k != 5) = true := by simp [hk]
    have H1 : Hid (headP (.mk k t ks) = ⟨#[]⟩ ∧ headOk (.mk k t ks) = false) := by unfold Hid headP headOk Tr.k Tr.ks; simp [hk]
    clear hk
    go_enter Tryz.func50, Tryz.ntmps50
    go_wp2
    go_ret2
    exact ⟨by rw [H1.out.1, H1.out.2]; rfl, hB⟩
end Go.Proofs.YtnmofolhfbldjaaGreatDoor

/-
  Which trees are core forms (plain), and names that stand twice.
-/
namespace Go.Proofs.YtnmofolhfbldjaaGreatDoor
open Go.RowKit
set_option linter.unusedVariables false

mutual
/-- A core form: it has the shape of one, and its parts from one on are core forms. -/
def coreP : Tr → Bool
  | .mk k t ks => match shapeP (.mk k t ks) with
    | none => false
    | some n => coresP n ks
/-- All but the first n are core forms. -/
def coresP : Nat → List Tr → Bool
  | _, [] => true
  | 0, A :: As => coreP A && coresP 0 As
  | n + 1, _ :: As => coresP n As
end

theorem coreP_eq (T : Tr) : coreP T = match shapeP T with | none => false | some n => coresP n T.ks := by
  obtain ⟨k, t, ks⟩ := T
  rw [coreP]
  rfl
theorem coresP_drop : ∀ (As : List Tr) (n : Nat), coresP n As = coresP 0 (As.drop n)
  | [], n => by rw [coresP, List.drop_nil, coresP]
  | A :: As, 0 => rfl
  | A :: As, n + 1 => by rw [coresP, List.drop_succ_cons]; exact coresP_drop As n

theorem shape_le {T : Tr} {n : Nat} (h : shapeP T = some n) : n ≤ T.ks.length := by
  unfold shapeP at h
  split at h
  · split at h
    · cases h
    · injection h with h; omega
  · split at h
    · cases h
    · split at h
      · injection h with h; omega
      · split at h
        · cases h
        · next A As he =>
          rw [he, List.length_cons]
          split at h
          · injection h with h; omega
          · split at h
            · split at h
              · injection h with h; omega
              · cases h
            · split at h
              · split at h
                · injection h with h; omega
                · cases h
              · split at h
                · split at h
                  · injection h with h; omega
                  · cases h
                · split at h
                  · split at h
                    · injection h with h; omega
                    · cases h
                  · split at h
                    · split at h
                      · injection h with h; omega
                      · cases h
                    · cases h

/-- A name that stands in a row twice, or stood ahead already. -/
def twF : List ByteArray → List ByteArray → Bool
  | _, [] => false
  | met, x :: xs => inL met x || twF (met ++ [x]) xs
theorem names_tw : ∀ (As : List Tr) (met : List ByteArray), namesOk As met = (As.all isVar && !twF met (As.map Tr.t))
  | [], met => rfl
  | A :: As, met => by
    rw [namesOk, names_tw As, List.all_cons, List.map_cons, twF]
    cases isVar A <;> cases inL met A.t <;> cases As.all isVar <;> cases twF (met ++ [A.t]) (As.map Tr.t) <;> rfl
theorem tw_take (l : List ByteArray) (k : Nat) (hk : k < l.length) (h : twF [] l = twF (l.take k) (l.drop k)) :
    twF [] l = (inL (l.take k) (l.getD k default) || twF (l.take (k + 1)) (l.drop (k + 1))) := by
  rw [h, List.drop_eq_getElem_cons hk, twF, List.take_add_one, List.getElem?_eq_getElem hk, List.getD, List.getElem?_eq_getElem hk]
  rfl
theorem params_sym {k : Int} {t : ByteArray} {ks : List Tr} (h : k = 2) : paramsOk (.mk k t ks) = namesOk [.mk k t ks] [] := by
  have e : paramsOk (.mk k t ks) = isVar (.mk k t ks) := if_pos h
  rw [e, namesOk, namesOk]
  simp [inL]
theorem params_list {k : Int} {t : ByteArray} {ks : List Tr} (h : k ≠ 2) : paramsOk (.mk k t ks) = ((decide (k = 5) || decide (k = 6)) && namesOk ks []) := if_neg h
/-- A part of a row is smaller than the row. -/
theorem szs_kid : ∀ (As : List Tr) (i : Nat) {k : Int} {t : ByteArray} {ks : List Tr}, As[i]? = some (.mk k t ks) → 1 + szs ks ≤ szs As
  | [], i, k, t, ks, h => by simp at h
  | A :: As, 0, k, t, ks, h => by
    have e : A = .mk k t ks := by simpa using h
    subst e
    rw [szs, Tr.sz]; omega
  | A :: As, i + 1, k, t, ks, h => by
    have := szs_kid As i (by simpa using h)
    rw [szs]; omega
end Go.Proofs.YtnmofolhfbldjaaGreatDoor

/-
  Forms are loaded and stored whole: the runs of these operations, for the walk's context.
-/
namespace Go.Proofs.YtnmofolhfbldjaaGreatDoor
open Go.RowKit
set_option linter.unusedVariables false

theorem range3 {w : World} {g off : Nat} {k : Int} {t : ByteArray} {z : Value} (c0 : w.cell? ⟨g, off, none⟩ = some (.int .i64 k)) (c1 : w.cell? ⟨g, off + 1, none⟩ = some (.string t)) (c2 : w.cell? ⟨g, off + 2, none⟩ = some z) : w.rangeAt g off (fmL k t z) := by
  intro j u hu
  match j, hu with
  | 0, hu => simp [fmL] at hu; subst hu; exact c0
  | 1, hu => simp [fmL] at hu; subst hu; exact c1
  | 2, hu => simp [fmL] at hu; subst hu; exact c2
  | j + 3, hu => simp [fmL] at hu

theorem load_fm {w : World} {g off : Nat} {k : Int} {t : ByteArray} {z : Value} (c0 : w.cell? ⟨g, off, none⟩ = some (.int .i64 k)) (c1 : w.cell? ⟨g, off + 1, none⟩ = some (.string t)) (c2 : w.cell? ⟨g, off + 2, none⟩ = some z) :
    (Instr.loadAt 58 (.pointer (some ⟨g, off, none⟩))).run Tryz.prog w = .ok (.agg (fmC k t z)) w :=
  run_loadAt_mid w g off 58 (fmL k t z) _ (range3 c0 c1 c2) Tryz.underlying58 rfl zero_fm.2
theorem load_t4 {w : World} {g off : Nat} {k : Int} {t : ByteArray} {z : Value} (c0 : w.cell? ⟨g, off, none⟩ = some (.int .i64 k)) (c1 : w.cell? ⟨g, off + 1, none⟩ = some (.string t)) (c2 : w.cell? ⟨g, off + 2, none⟩ = some z) :
    (Instr.loadAt 29 (.pointer (some ⟨g, off, none⟩))).run Tryz.prog w = .ok (.agg (fmC k t z)) w :=
  run_loadAt_mid w g off 29 (fmL k t z) _ (range3 c0 c1 c2) Tryz.underlying29 rfl zero_t4.2

/-- The cells of a form that lies alone in a block. -/
theorem fm_c {w : World} {b : Nat} {T : TypeId} {k : Int} {t : ByteArray} {z : Value} (h : RowAt w b T (fmC k t z)) : w.cell? ⟨b, 0, none⟩ = some (.int .i64 k) ∧ w.cell? ⟨b, 1, none⟩ = some (.string t) ∧ w.cell? ⟨b, 2, none⟩ = some z := by
  refine ⟨?_, ?_, ?_⟩ <;> (rw [cell_of_row w b _ _ _ _ h]; rfl)
theorem load_fm1 {w : World} {b : Nat} {k : Int} {t : ByteArray} {z : Value} (h : RowAt w b 58 (fmC k t z)) :
    (Instr.loadAt 58 (.pointer (some ⟨b, 0, none⟩))).run Tryz.prog w = .ok (.agg (fmC k t z)) w := load_fm (fm_c h).1 (fm_c h).2.1 (fm_c h).2.2
theorem load_t41 {w : World} {b : Nat} {k : Int} {t : ByteArray} {z : Value} (h : RowAt w b 29 (fmC k t z)) :
    (Instr.loadAt 29 (.pointer (some ⟨b, 0, none⟩))).run Tryz.prog w = .ok (.agg (fmC k t z)) w := load_t4 (fm_c h).1 (fm_c h).2.1 (fm_c h).2.2

/-- A form is written into a block of its own. -/
theorem store_own3 {w : World} {b : Nat} {T : TypeId} (c0 : Array Value) (h3 : c0.size = 3) (hs : (Tryz.prog.info? T).map (·.size) = some 3) (hR : RowAt w b T c0) (k : Int) (t : ByteArray) (z : Value) (hz : z.oneCell' = true) :
    ∃ w', (Instr.storeAt T (.pointer (some ⟨b, 0, none⟩)) (.agg (fmC k t z))).run Tryz.prog w = .ok () w' ∧ RowAt w' b T (fmC k t z) ∧ w.grownBy w' (some b) ∧ w'.heap.size = w.heap.size := by
  have h1 := run_storeVar_row (P := Tryz.prog) w b T T c0 (fmC k t z) hR (by rw [hs]; rfl) (by rw [h3]; rfl) (fmC_one k t z hz)
  refine ⟨_, ?_, setRow_heap w b _ _ _ _ hR, ⟨rfl, rfl, rfl, by simp, fun k _ hne => setRow_other w b k _ (by intro e; exact hne (by rw [e]))⟩, by simp⟩
  simp only [Instr.storeAt, Instr.sureAddr, Sem.run_bind, Sem.run_pure, Result.andThen_ok, h1]

/-- A form is laid into a new block. -/
theorem store_new3 {w : World} {T : TypeId} (hs : (Tryz.prog.info? T).map (·.size) = some 3) (k : Int) (t : ByteArray) (z : Value) (hz : z.oneCell' = true) :
    ∃ w', (Instr.storeAt T (.pointer (some ⟨w.heap.size, 0, none⟩)) (.agg (fmC k t z))).run Tryz.prog (w.alloc (.cells #[.int .i64 0, .string ⟨#[]⟩, .slice none 0 0] T)) = .ok () w' ∧ RowAt w' w.heap.size T (fmC k t z) ∧ Below w.heap.size w w' ∧ w'.heap.size = w.heap.size + 1 := by
  obtain ⟨w', h1, h2, h3, h4⟩ := store_own3 (w := w.alloc (.cells #[.int .i64 0, .string ⟨#[]⟩, .slice none 0 0] T)) (b := w.heap.size) (T := T) _ rfl hs (RowAt.new w _ _) k t z hz
  refine ⟨w', h1, h2, ((Below.refl _ _).alloc (Nat.le_refl _) _).grown h3 (by simp) (by intro k hk; cases hk; exact Nat.le_refl _), by rw [h4]; simp⟩

theorem rowRd_one {w : World} {T : TypeId} {z : Value} {As : List Tr} (h : RowRd w T z As) : z.oneCell' = true := by
  obtain ⟨o, cap, rfl⟩ := h.len
  rfl
/-- Rows that were made are rows to be read. -/
theorem rowRd_of {w w' : World} {T : TypeId} {z : Value} {As : List Tr} {ys : List Value} {B n : Nat} (h1 : w'.ownsRow B T 3 z n ys) (h2 : trsC w' T (InB w w' z) As ys) : RowRd w' T z As :=
  ⟨ys, own_rowIn h1 (fun g hg => ownT_lt h1 hg), trsC_mono (fun g hg => ⟨hg.2.1, fun o ho => ho⟩) As ys h2⟩
end Go.Proofs.YtnmofolhfbldjaaGreatDoor

/-
  What goodParameters of impl answers.
-/
namespace Go.Proofs.YtnmofolhfbldjaaGreatDoor
open Go.RowKit
set_option linter.unusedVariables false

theorem zero_int (w : World) : (zeroValue 3).run Tryz.prog w = .ok (.int .i64 0) w := (zero_of_info (v := .int .i64 0) (n := 1) (by kernel_rfl)).1 w

set_option maxHeartbeats 2000000 in
set_option maxRecDepth 100000 in
theorem parametersOf_list (k : Int) (t : ByteArray) (z : Value) (hk : k ≠ 2) (hzc : z.oneCell' = true) (o : Option Addr) (n cap : Nat) (hzz : z = .slice o n cap) (w : World) :
    Calls Tryz.prog 70 #[.agg (fmC k t z)] w fun e w' => e = .returned z ∧ Below w.heap.size w w' := by
  have hkb : (k == 2) = false := by simp [hk]
  have hB : Below w.heap.size w (w.alloc (.cells (fmC k t z) 58)) := (Below.refl _ _).alloc (Nat.le_refl _) _
  have hR := RowAt.new w 58 (fmC k t z)
  have c0 := (fm_c hR).1
  have c1 := (fm_c hR).2.1
  have c2 := (fm_c hR).2.2
  subst hzz
  clear hR
  go_enter Tryz.func70, Tryz.ntmps70
  go_wp2
  go_ret
  exact ⟨rfl, hB⟩
set_option maxHeartbeats 2000000 in
set_option maxRecDepth 100000 in
theorem parametersOf_sym (t : ByteArray) (z : Value) (o : Option Addr) (n cap : Nat) (hzz : z = .slice o n cap) (w : World) :
    Calls Tryz.prog 70 #[.agg (fmC 2 t z)] w fun e w' => (∃ b, e = .returned (.slice (some ⟨b, 0, none⟩) 1 1) ∧ w.heap.size ≤ b ∧ RowAt w' b 58 (fmC 2 t z)) ∧ Below w.heap.size w w' := by
  have hB : Below w.heap.size w ((w.alloc (.cells (fmC 2 t z) 58)).alloc (.cells #[.int .i64 2, .string t, z] 58)) := ((Below.refl _ _).alloc (Nat.le_refl _) _).alloc (by simp) _
  have hR := RowAt.new w 58 (fmC 2 t z)
  have c0 := (fm_c hR).1
  have c1 := (fm_c hR).2.1
  have c2 := (fm_c hR).2.2
  have HR : Hid (RowAt ((w.alloc (.cells (fmC 2 t z) 58)).alloc (.cells #[.int .i64 2, .string t, z] 58)) (w.heap.size + 1) 58 (fmC 2 t z)) := by
    have := RowAt.new (w.alloc (.cells (fmC 2 t z) 58)) 58 (fmC 2 t z)
    rwa [World.size_alloc] at this
  subst hzz
  clear hR
  go_enter Tryz.func70, Tryz.ntmps70
  go_wp2
  go_ret
  exact ⟨⟨_, rfl, Nat.le_succ _, HR.out⟩, hB⟩
set_option maxHeartbeats 4000000 in
set_option maxRecDepth 100000 in
theorem goodParameters_any (k : Int) (t : ByteArray) (z : Value) (ks : List Tr) (w : World) (hK : RowRd w 58 z ks) (h300 : ks.length ≤ 300) :
    Calls Tryz.prog 51 #[.agg (fmC k t z)] w fun e w' => e = .returned (.bool (paramsOk (.mk k t ks))) ∧ Below w.heap.size w w' := by
  have hmm := @run_makeMap Tryz.prog
  have hz := zero_fm.1
  have hR := RowAt.new w 58 (fmC k t z)
  have c0 := (fm_c hR).1
  have c1 := (fm_c hR).2.1
  have c2 := (fm_c hR).2.2
  have hR' := hR.below ((Below.refl (w.heap.size + 1) (w.alloc (.cells (fmC k t z) 58))).alloc (by simp) (.map #[] 0)) (Nat.lt_succ_self _)
  have e0 := (fm_c hR').1
  have e1 := (fm_c hR').2.1
  have e2 := (fm_c hR').2.2
  clear hR'
  have hB : Below w.heap.size w (w.alloc (.cells (fmC k t z) 58)) := (Below.refl _ _).alloc (Nat.le_refl _) _
  have hK2 := hK.below hB
  have hzc := rowRd_one hK
  obtain ⟨o, cap, hzz⟩ := hK.len
  obtain ⟨n, hn⟩ : ∃ n, n = ks.length := ⟨_, rfl⟩
  have HNN := hideT' hn
  by_cases hk : k = 2
  · subst hk
    have HEND : Hid (paramsOk (.mk 2 t ks) = namesOk [.mk 2 t ks] []) := params_sym rfl
    have HKW := hideT' hK
    have HPS : Hid (∀ W, Calls Tryz.prog 70 #[.agg (fmC 2 t z)] W fun e w' => (∃ b, e = .returned (.slice (some ⟨b, 0, none⟩) 1 1) ∧ W.heap.size ≤ b ∧ RowAt w' b 58 (fmC 2 t z)) ∧ Below W.heap.size W w') := fun W => parametersOf_sym t z o ks.length cap hzz W
    have HBW : Hid (Below w.heap.size w (w.alloc (.cells (fmC 2 t z) 58))) := hB
    clear hR hK hK2 hn hB
    subst hzz
    have HNN : Hid (1 = [Tr.mk 2 t ks].length) := rfl
    go_enter Tryz.func51, Tryz.ntmps51
    go_wp2_with fail
    refine (HPS.out _).mono ?_
    rintro e w1 ⟨⟨bb, rfl, hbb, hRb⟩, hB1⟩
    have hB1A : Below (w.heap.size + 1 + 1) ((w.alloc (.cells (fmC 2 t (.slice o ks.length cap)) 58)).alloc (.map #[] 0)) w1 := by
      have := hB1
      simp only [World.size_alloc] at this
      exact this
    have HSM : Hid (StrMap w1 (w.heap.size + 1) []) := by
      have h := StrMap.made (w.alloc (.cells (fmC 2 t (.slice o ks.length cap)) 58))
      simp only [World.size_alloc] at h
      exact h.below hB1A (by omega)
    have HBA : Hid (Below (w.heap.size + 1) (w.alloc (.cells (fmC 2 t (.slice o ks.length cap)) 58)) w1) := ((Below.refl _ _).alloc (by simp) _).trans (hB1A.mono (by omega))
    have HK : Hid (RowRd w1 58 (.slice (some ⟨bb, 0, none⟩) 1 1) [.mk 2 t ks]) := by
      have hBw1 : Below w.heap.size w w1 := HBW.out.trans (HBA.out.mono (by omega))
      obtain ⟨ys, h1, h2⟩ := HKW.out.below hBw1
      refine ⟨fmL 2 t (.slice o ks.length cap), .inr ⟨_, 1, 1, fmC 2 t (.slice o ks.length cap), rfl, hRb.lt, hRb, rfl, rfl, Nat.le_refl _⟩, ?_⟩
      rw [trsC]
      refine ⟨fmL 2 t (.slice o ks.length cap), [], by simp, ?_, by rw [trsC]⟩
      rw [Tr.cells]
      exact ⟨.slice o ks.length cap, ys, rfl, h1, h2⟩
    clear hB1 hB1A hRb
    go_wp2_with fail
    go_loopg [21] 1 (fun gg i wr => ∃ (j : Nat) (m : List (ByteArray × Value)), gg = 1 - j ∧ j ≤ 1 ∧ i = .int .i64 (j : Int) ∧ Hid (StrMap wr (w.heap.size + 1) m ∧ m.map (·.1) = ([Tr.mk 2 t ks].take j).map Tr.t ∧ namesOk [Tr.mk 2 t ks] [] = namesOk ([Tr.mk 2 t ks].drop j) (m.map (·.1)) ∧ (j = 0 → wr = w1)) ∧ Below (w.heap.size + 1) (w.alloc (.cells (fmC 2 t (.slice o ks.length cap)) 58)) wr)
    case atStart => exact ⟨0, [], rfl, by omega, by go_num, ⟨HSM.out, rfl, rfl, fun _ => rfl⟩, HBA.out⟩
    case round =>
      obtain ⟨j, m, rfl, hjn, rfl, HM, hW⟩ := hrel
      have hsW := hW.size
      have hsR : (w.alloc (.cells (fmC 2 t (.slice o ks.length cap)) 58)).heap.size = (w.heap.size + 1) := by simp
      have hMl : (w.heap.size + 1) < wr.heap.size := HM.out.1.lt
      by_cases hlt : (j : Int) < (1 : Int)
      · have hj' : j < ([Tr.mk 2 t ks]).length := by have := HNN.out; omega
        obtain ⟨g, cap', k1, t1, ks1, z1, hz, hA, d0, d1, d2, hr⟩ := (show RowRd wr 58 (.slice (some ⟨bb, 0, none⟩) 1 1) [.mk 2 t ks] by rw [HM.out.2.2.2 (by omega)]; exact HK.out).at j hj'
        obtain ⟨o1, p1, rfl⟩ := hr.len
        injection hz with hz1 hz2 hz3
        first | subst hz1 | (injection hz1 with hz1; injection hz1 with hz1; subst hz1)
        have hR2 : RowAt (wr.alloc (.cells #[.int .i64 k1, .string t1, (.slice o1 ks1.length p1)] 58)) wr.heap.size 58 (fmC k1 t1 (.slice o1 ks1.length p1)) := RowAt.new wr _ _
        have hB2 : Below wr.heap.size wr (wr.alloc (.cells #[.int .i64 k1, .string t1, (.slice o1 ks1.length p1)] 58)) := (Below.refl _ _).alloc (Nat.le_refl _) _
        have hs2 : ((wr.alloc (.cells #[.int .i64 k1, .string t1, (.slice o1 ks1.length p1)] 58))).heap.size = wr.heap.size + 1 := by simp
        have hM2 : StrMap (wr.alloc (.cells #[.int .i64 k1, .string t1, (.slice o1 ks1.length p1)] 58)) (w.heap.size + 1) m := HM.out.1.below hB2 hMl
        have hlook := (look_str 85 9 3 Tryz.underlying85 Tryz.underlying9 (.int .i64 0) (zero_int (wr.alloc (.cells #[.int .i64 k1, .string t1, (.slice o1 ks1.length p1)] 58))) (w.heap.size + 1) t1 m hM2).1
        have hAd : ([Tr.mk 2 t ks]).drop j = .mk k1 t1 ks1 :: ([Tr.mk 2 t ks]).drop (j + 1) := by
          rw [List.drop_eq_getElem_cons hj']
          rw [List.getElem?_eq_getElem hj'] at hA
          injection hA with hA
          rw [hA]
        have hnm : namesOk [Tr.mk 2 t ks] [] = (isVar (.mk k1 t1 ks1) && (!inL (m.map (·.1)) t1 && namesOk (([Tr.mk 2 t ks]).drop (j + 1)) (m.map (·.1) ++ [t1]))) := by
          rw [HM.out.2.2.1, hAd, namesOk]; rfl
        rw [← getM_in] at hnm
        have hAt : (([Tr.mk 2 t ks]).take (j + 1)).map Tr.t = ([Tr.mk 2 t ks].take j).map Tr.t ++ [t1] := by
          rw [List.take_add_one, hA, List.map_append]; rfl
        have HBT : Hid (Below w.heap.size w (wr.alloc (.cells #[.int .i64 k1, .string t1, (.slice o1 ks1.length p1)] 58))) := HBW.out.trans ((hW.trans (hB2.mono (by omega))).mono (by omega))
        have HNM := hideT' hnm
        have HAT := hideT' hAt
        obtain ⟨v, hv⟩ : ∃ v, v = (getM m t1).getD (.int .i64 0) := ⟨_, rfl⟩
        rw [← hv] at hlook
        have HG : Hid (getM m t1 = getM m t1) := rfl
        obtain ⟨b, hb⟩ : ∃ b, b = (getM m t1).isSome := ⟨_, rfl⟩
        rw [← hb] at hlook
        have HB := hideT' hb
        clear hv hb hnm hAt hAd hA hr HG hz2 hz3
        cases b with
        | true =>
          have HF : Hid (namesOk [Tr.mk 2 t ks] [] = false) := by unfold Hid; rw [HNM.out, ← HB.out]; simp
          go_wp2
          go_ret
          exact ⟨by rw [HEND.out, HF.out]; rfl, HBT.out⟩
        | false =>
          have hcall := isVariable_any k1 t1 (.slice o1 ks1.length p1) ks1 (wr.alloc (.cells #[.int .i64 k1, .string t1, (.slice o1 ks1.length p1)] 58))
          have HCALL := hideT' hcall
          clear hcall
          go_wp2_with fail
          refine HCALL.out.mono ?_
          rintro e w3 ⟨rfl, hB3⟩
          have hs3 := hB3.size
          obtain ⟨b2, hb2⟩ : ∃ b2, b2 = isVar (.mk k1 t1 ks1) := ⟨_, rfl⟩
          rw [← hb2]
          have HB2 := hideT' hb2
          clear hb2
          cases b2 with
          | false =>
            have HF : Hid (namesOk [Tr.mk 2 t ks] [] = false) := by unfold Hid; rw [HNM.out, ← HB2.out]; rfl
            have HB4 : Hid (Below w.heap.size w w3) := HBT.out.trans (hB3.mono HBT.out.size)
            go_wp2
            go_ret
            exact ⟨by rw [HEND.out, HF.out]; rfl, HB4.out⟩
          | true =>
            have hM3 : StrMap w3 (w.heap.size + 1) m := hM2.below hB3 hM2.lt
            have g1 : w3.cell? ⟨wr.heap.size, 1, none⟩ = some (.string t1) := (fm_c (RowAt.below hR2 hB3 (by omega))).2.1
            obtain ⟨w4, hup, hM4, hg4, hs4⟩ := upd_str 85 9 3 Tryz.underlying85 Tryz.underlying9 (w.heap.size + 1) t1 (.int .i64 (j : Int)) m hM3
            have HK4 : Hid (getM m t1 = none) := by
              unfold Hid
              have := HB.out
              cases h : getM m t1 with
              | none => rfl
              | some x => rw [h] at this; cases this
            have HMM : Hid (StrMap w4 (w.heap.size + 1) (putM m t1 (.int .i64 (j : Int))) ∧ (putM m t1 (.int .i64 (j : Int))).map (·.1) = ([Tr.mk 2 t ks].take (j + 1)).map Tr.t ∧ namesOk [Tr.mk 2 t ks] [] = namesOk ([Tr.mk 2 t ks].drop (j + 1)) ((putM m t1 (.int .i64 (j : Int))).map (·.1)) ∧ (j + 1 = 0 → w4 = w1)) := by
              have e : (putM m t1 (.int .i64 (j : Int))).map (·.1) = m.map (·.1) ++ [t1] := by rw [putM_new t1 _ m HK4.out, List.map_append]; rfl
              refine ⟨hM4, ?_, ?_, fun h => absurd h (by omega)⟩
              · rw [e, HAT.out, HM.out.2.1]
              · rw [e, HNM.out, ← HB2.out, ← HB.out]; simp
            have HB5 := hideT' (((hW.trans (hB2.mono (by omega))).trans (hB3.mono (by omega))).grown hg4 (by omega) (by intro k hk; cases hk; exact Nat.le_refl _))
            clear hM3 hM2 hM4 hlook hg4 hs4
            go_wp2
            go_roundg (1 - (j + 1))
            case measure => omega
            case rel => exact ⟨j + 1, _, rfl, by omega, by go_num, HMM, HB5.out⟩
      · have HT : Hid (namesOk [Tr.mk 2 t ks] [] = true) := by
          unfold Hid
          rw [HM.out.2.2.1, List.drop_eq_nil_of_le (by have := HNN.out; omega), namesOk]
        have HB5 : Hid (Below w.heap.size w wr) := HBW.out.trans (hW.mono (by omega))
        go_wp2
        go_ret
        exact ⟨by rw [HEND.out, HT.out]; rfl, HB5.out⟩
  · have hkb : (k == 2) = false := by simp [hk]
    obtain ⟨b5, hb5⟩ : ∃ b5, b5 = isL k := ⟨_, rfl⟩
    have HB5 := hideT' hb5
    have HBW : Hid (Below w.heap.size w (w.alloc (.cells (fmC k t z) 58))) := hB
    have HK := hideT' hK2
    have HE0 : Hid (paramsOk (.mk k t ks) = (b5 && namesOk ks [])) := by
      unfold Hid
      rw [params_list hk, hb5]; rfl
    rw [← hn] at hzz h300
    have HK2 : Hid (k ≠ 2) := hk
    have hkn : ¬ k = 2 := hk
    clear hk hR hK hK2 hn hb5
    subst hzz
    go_enter Tryz.func51, Tryz.ntmps51
    go_wp2_with fail
    refine (isList_any k _).mono ?_
    rintro e w1 ⟨rfl, rfl⟩
    rw [← HB5.out]
    cases b5 with
    | false =>
      go_wp2
      go_ret
      exact ⟨by rw [HE0.out]; rfl, hB⟩
    | true =>
      have HEND : Hid (paramsOk (.mk k t ks) = namesOk ks []) := by unfold Hid; rw [HE0.out]; rfl
      have HPL : Hid (∀ W, Calls Tryz.prog 70 #[.agg (fmC k t (.slice o n cap))] W fun e w' => e = .returned (.slice o n cap) ∧ Below W.heap.size W w') := fun W => parametersOf_list k t (.slice o n cap) HK2.out rfl o n cap rfl W
      go_wp2_with fail
      refine (HPL.out _).mono ?_
      rintro e w1 ⟨rfl, hB1⟩
      have hB1A : Below (w.heap.size + 1 + 1) ((w.alloc (.cells (fmC k t (.slice o n cap)) 58)).alloc (.map #[] 0)) w1 := by
        have := hB1
        simp only [World.size_alloc] at this
        exact this
      have HSM : Hid (StrMap w1 (w.heap.size + 1) []) := by
        have h := StrMap.made (w.alloc (.cells (fmC k t (.slice o n cap)) 58))
        simp only [World.size_alloc] at h
        exact h.below hB1A (by omega)
      have HBA : Hid (Below (w.heap.size + 1) (w.alloc (.cells (fmC k t (.slice o n cap)) 58)) w1) := ((Below.refl _ _).alloc (by simp) _).trans (hB1A.mono (by omega))
      clear hB1 hB1A
      go_wp2_with fail
      go_loopg [21] n (fun gg i wr => ∃ (j : Nat) (m : List (ByteArray × Value)), gg = n - j ∧ j ≤ n ∧ i = .int .i64 (j : Int) ∧ Hid (StrMap wr (w.heap.size + 1) m ∧ m.map (·.1) = (ks.take j).map Tr.t ∧ namesOk ks [] = namesOk (ks.drop j) (m.map (·.1))) ∧ Below (w.heap.size + 1) (w.alloc (.cells (fmC k t (.slice o n cap)) 58)) wr)
      case atStart => exact ⟨0, [], rfl, by omega, by go_num, ⟨HSM.out, rfl, rfl⟩, HBA.out⟩
      case round =>
        obtain ⟨j, m, rfl, hjn, rfl, HM, hW⟩ := hrel
        have hsW := hW.size
        have hsR : (w.alloc (.cells (fmC k t (.slice o n cap)) 58)).heap.size = (w.heap.size + 1) := by simp
        have hMl : (w.heap.size + 1) < wr.heap.size := HM.out.1.lt
        by_cases hlt : (j : Int) < (n : Int)
        · have hj' : j < (ks).length := by have := HNN.out; omega
          obtain ⟨g, cap', k1, t1, ks1, z1, hz, hA, d0, d1, d2, hr⟩ := (HK.out.below (hW.mono (by rw [hsR]; exact Nat.le_refl _))).at j hj'
          obtain ⟨o1, p1, rfl⟩ := hr.len
          injection hz with hz1 hz2 hz3
          first | subst hz1 | (injection hz1 with hz1; injection hz1 with hz1; subst hz1)
          have hR2 : RowAt (wr.alloc (.cells #[.int .i64 k1, .string t1, (.slice o1 ks1.length p1)] 58)) wr.heap.size 58 (fmC k1 t1 (.slice o1 ks1.length p1)) := RowAt.new wr _ _
          have hB2 : Below wr.heap.size wr (wr.alloc (.cells #[.int .i64 k1, .string t1, (.slice o1 ks1.length p1)] 58)) := (Below.refl _ _).alloc (Nat.le_refl _) _
          have hs2 : ((wr.alloc (.cells #[.int .i64 k1, .string t1, (.slice o1 ks1.length p1)] 58))).heap.size = wr.heap.size + 1 := by simp
          have hM2 : StrMap (wr.alloc (.cells #[.int .i64 k1, .string t1, (.slice o1 ks1.length p1)] 58)) (w.heap.size + 1) m := HM.out.1.below hB2 hMl
          have hlook := (look_str 85 9 3 Tryz.underlying85 Tryz.underlying9 (.int .i64 0) (zero_int (wr.alloc (.cells #[.int .i64 k1, .string t1, (.slice o1 ks1.length p1)] 58))) (w.heap.size + 1) t1 m hM2).1
          have hAd : (ks).drop j = .mk k1 t1 ks1 :: (ks).drop (j + 1) := by
            rw [List.drop_eq_getElem_cons hj']
            rw [List.getElem?_eq_getElem hj'] at hA
            injection hA with hA
            rw [hA]
          have hnm : namesOk ks [] = (isVar (.mk k1 t1 ks1) && (!inL (m.map (·.1)) t1 && namesOk ((ks).drop (j + 1)) (m.map (·.1) ++ [t1]))) := by
            rw [HM.out.2.2, hAd, namesOk]; rfl
          rw [← getM_in] at hnm
          have hAt : ((ks).take (j + 1)).map Tr.t = (ks.take j).map Tr.t ++ [t1] := by
            rw [List.take_add_one, hA, List.map_append]; rfl
          have HBT : Hid (Below w.heap.size w (wr.alloc (.cells #[.int .i64 k1, .string t1, (.slice o1 ks1.length p1)] 58))) := HBW.out.trans ((hW.trans (hB2.mono (by omega))).mono (by omega))
          have HNM := hideT' hnm
          have HAT := hideT' hAt
          obtain ⟨v, hv⟩ : ∃ v, v = (getM m t1).getD (.int .i64 0) := ⟨_, rfl⟩
          rw [← hv] at hlook
          have HG : Hid (getM m t1 = getM m t1) := rfl
          obtain ⟨b, hb⟩ : ∃ b, b = (getM m t1).isSome := ⟨_, rfl⟩
          rw [← hb] at hlook
          have HB := hideT' hb
          clear hv hb hnm hAt hAd hA hr HG hz2 hz3
          cases b with
          | true =>
            have HF : Hid (namesOk ks [] = false) := by unfold Hid; rw [HNM.out, ← HB.out]; simp
            go_wp2
            go_ret
            exact ⟨by rw [HEND.out, HF.out]; rfl, HBT.out⟩
          | false =>
            have hcall := isVariable_any k1 t1 (.slice o1 ks1.length p1) ks1 (wr.alloc (.cells #[.int .i64 k1, .string t1, (.slice o1 ks1.length p1)] 58))
            have HCALL := hideT' hcall
            clear hcall
            go_wp2_with fail
            refine HCALL.out.mono ?_
            rintro e w3 ⟨rfl, hB3⟩
            have hs3 := hB3.size
            obtain ⟨b2, hb2⟩ : ∃ b2, b2 = isVar (.mk k1 t1 ks1) := ⟨_, rfl⟩
            rw [← hb2]
            have HB2 := hideT' hb2
            clear hb2
            cases b2 with
            | false =>
              have HF : Hid (namesOk ks [] = false) := by unfold Hid; rw [HNM.out, ← HB2.out]; rfl
              have HB4 : Hid (Below w.heap.size w w3) := HBT.out.trans (hB3.mono HBT.out.size)
              go_wp2
              go_ret
              exact ⟨by rw [HEND.out, HF.out]; rfl, HB4.out⟩
            | true =>
              have hM3 : StrMap w3 (w.heap.size + 1) m := hM2.below hB3 hM2.lt
              have g1 : w3.cell? ⟨wr.heap.size, 1, none⟩ = some (.string t1) := (fm_c (RowAt.below hR2 hB3 (by omega))).2.1
              obtain ⟨w4, hup, hM4, hg4, hs4⟩ := upd_str 85 9 3 Tryz.underlying85 Tryz.underlying9 (w.heap.size + 1) t1 (.int .i64 (j : Int)) m hM3
              have HK4 : Hid (getM m t1 = none) := by
                unfold Hid
                have := HB.out
                cases h : getM m t1 with
                | none => rfl
                | some x => rw [h] at this; cases this
              have HMM : Hid (StrMap w4 (w.heap.size + 1) (putM m t1 (.int .i64 (j : Int))) ∧ (putM m t1 (.int .i64 (j : Int))).map (·.1) = (ks.take (j + 1)).map Tr.t ∧ namesOk ks [] = namesOk (ks.drop (j + 1)) ((putM m t1 (.int .i64 (j : Int))).map (·.1))) := by
                have e : (putM m t1 (.int .i64 (j : Int))).map (·.1) = m.map (·.1) ++ [t1] := by rw [putM_new t1 _ m HK4.out, List.map_append]; rfl
                refine ⟨hM4, ?_, ?_⟩
                · rw [e, HAT.out, HM.out.2.1]
                · rw [e, HNM.out, ← HB2.out, ← HB.out]; simp
              have HB5 := hideT' (((hW.trans (hB2.mono (by omega))).trans (hB3.mono (by omega))).grown hg4 (by omega) (by intro k hk; cases hk; exact Nat.le_refl _))
              clear hM3 hM2 hM4 hlook hg4 hs4
              go_wp2
              go_roundg (n - (j + 1))
              case measure => omega
              case rel => exact ⟨j + 1, _, rfl, by omega, by go_num, HMM, HB5.out⟩
        · have HT : Hid (namesOk ks [] = true) := by
            unfold Hid
            rw [HM.out.2.2, List.drop_eq_nil_of_le (by have := HNN.out; omega), namesOk]
          have HB5 : Hid (Below w.heap.size w wr) := HBW.out.trans (hW.mono (by omega))
          go_wp2
          go_ret
          exact ⟨by rw [HEND.out, HT.out]; rfl, HB5.out⟩
end Go.Proofs.YtnmofolhfbldjaaGreatDoor

/-
  The shape of a core form, case by case (plain).
-/
namespace Go.Proofs.YtnmofolhfbldjaaGreatDoor
open Go.RowKit
set_option linter.unusedVariables false

/-- What both coreFrom and l4Shape answer. -/
def ShapeAns (T : Tr) (e : Ending) : Prop := ∃ m : Int, e = .returned (.tuple #[.int .i64 m, .bool (shapeP T).isSome]) ∧ ∀ n, shapeP T = some n → m = (n : Int)
theorem ShapeAns.some {T : Tr} {n : Nat} (h : shapeP T = .some n) : ShapeAns T (.returned (.tuple #[.int .i64 (n : Int), .bool true])) := ⟨n, by rw [h]; rfl, fun m hm => by rw [h] at hm; injection hm with hm; rw [hm]⟩
theorem ShapeAns.none {T : Tr} (m : Int) (h : shapeP T = .none) : ShapeAns T (.returned (.tuple #[.int .i64 m, .bool false])) := ⟨m, by rw [h]; rfl, fun m hm => by rw [h] at hm; cases hm⟩

theorem shape_sym {k : Int} {t : ByteArray} {ks : List Tr} (h : k = 2) : shapeP (.mk k t ks) = if isVar (.mk k t ks) then some 0 else none := by
  subst h
  unfold shapeP isVar Tr.k Tr.t
  rw [if_pos rfl]
  cases inL kwL t <;> simp
theorem shape_dot {k : Int} {t : ByteArray} {ks : List Tr} (h : k = 6) : shapeP (.mk k t ks) = none := by
  subst h
  unfold shapeP
  have e : (Tr.mk 6 t ks).k = 6 := rfl
  rw [e, if_neg (by decide), if_pos rfl]
theorem shape_atom {k : Int} {t : ByteArray} {ks : List Tr} (h2 : k ≠ 2) (h6 : k ≠ 6) (h5 : k ≠ 5) : shapeP (.mk k t ks) = some 0 := by
  unfold shapeP Tr.k
  simp only
  rw [if_neg h2, if_neg h6, if_pos h5]
theorem shape_nil {k : Int} {t : ByteArray} (h : k = 5) : shapeP (.mk k t []) = none := by
  subst h
  unfold shapeP
  have e : (Tr.mk 5 t []).k = 5 := rfl
  rw [e, if_neg (by decide), if_neg (by decide), if_neg (by decide)]
  rfl
theorem shape_list {k : Int} {t : ByteArray} {A : Tr} {As : List Tr} (h : k = 5) : shapeP (.mk k t (A :: As)) =
    (if ¬ (A.k = 2 ∧ inL kwL A.t = true) then some 0
      else if A.t.toList == [113, 117, 111, 116, 101] then (if As.length = 1 then some 2 else none)
      else if A.t.toList == [105, 102] then (if As.length = 3 then some 1 else none)
      else if (A.t.toList == [100, 101, 102, 105, 110, 101]) || (A.t.toList == [115, 101, 116, 33]) then (if As.length = 2 ∧ isVar (As.getD 0 default) = true then some 2 else none)
      else if A.t.toList == [108, 97, 109, 98, 100, 97] then (if As.length = 2 ∧ paramsOk (As.getD 0 default) = true then some 2 else none)
      else if A.t.toList == [98, 101, 103, 105, 110] then (if 1 ≤ As.length then some 1 else none)
      else none) := by
  subst h
  unfold shapeP
  have e : (Tr.mk 5 t (A :: As)).k = 5 := rfl
  rw [e, if_neg (by decide), if_neg (by decide), if_neg (by decide)]
  rfl
theorem shape_other {k : Int} {t : ByteArray} {A : Tr} {As : List Tr} (h : k = 5) (hA : ¬ A.k = 2) : shapeP (.mk k t (A :: As)) = some 0 := by
  rw [shape_list h, if_pos (by intro e; exact hA e.1)]
theorem shape_quote {k : Int} {t : ByteArray} {A : Tr} {As : List Tr} (h : k = 5) (hA : A.k = 2) (g0 : (A.t.toList == [113, 117, 111, 116, 101]) = true) :
    shapeP (.mk k t (A :: As)) = if As.length = 1 then some 2 else none := by
  have hk : inL kwL A.t = true := by rw [kwL_any, g0]; rfl
  rw [shape_list h, if_neg (by intro e; exact e ⟨hA, hk⟩), if_pos g0]
theorem shape_if {k : Int} {t : ByteArray} {A : Tr} {As : List Tr} (h : k = 5) (hA : A.k = 2) (g0 : (A.t.toList == [113, 117, 111, 116, 101]) = false) (g1 : (A.t.toList == [105, 102]) = true) :
    shapeP (.mk k t (A :: As)) = if As.length = 3 then some 1 else none := by
  have hk : inL kwL A.t = true := by rw [kwL_any, g0, g1]; rfl
  rw [shape_list h, if_neg (by intro e; exact e ⟨hA, hk⟩), g0, if_neg (by simp), if_pos g1]
theorem shape_def {k : Int} {t : ByteArray} {A : Tr} {As : List Tr} (h : k = 5) (hA : A.k = 2) (g0 : (A.t.toList == [113, 117, 111, 116, 101]) = false) (g1 : (A.t.toList == [105, 102]) = false) (g2 : ((A.t.toList == [100, 101, 102, 105, 110, 101]) || (A.t.toList == [115, 101, 116, 33])) = true) :
    shapeP (.mk k t (A :: As)) = if As.length = 2 ∧ isVar (As.getD 0 default) = true then some 2 else none := by
  have hk : inL kwL A.t = true := by
    rw [kwL_any, g0, g1]
    cases h2 : (A.t.toList == [100, 101, 102, 105, 110, 101]) with
    | true => rfl
    | false => rw [h2, Bool.false_or] at g2; rw [g2]; rfl
  rw [shape_list h, if_neg (by intro e; exact e ⟨hA, hk⟩), g0, if_neg (by simp), g1, if_neg (by simp), if_pos g2]
theorem shape_lambda {k : Int} {t : ByteArray} {A : Tr} {As : List Tr} (h : k = 5) (hA : A.k = 2) (g0 : (A.t.toList == [113, 117, 111, 116, 101]) = false) (g1 : (A.t.toList == [105, 102]) = false) (g2 : (A.t.toList == [100, 101, 102, 105, 110, 101]) = false) (g3 : (A.t.toList == [115, 101, 116, 33]) = false) (g4 : (A.t.toList == [108, 97, 109, 98, 100, 97]) = true) :
    shapeP (.mk k t (A :: As)) = if As.length = 2 ∧ paramsOk (As.getD 0 default) = true then some 2 else none := by
  have hk : inL kwL A.t = true := by rw [kwL_any, g0, g1, g2, g3, g4]; rfl
  rw [shape_list h, if_neg (by intro e; exact e ⟨hA, hk⟩), g0, if_neg (by simp), g1, if_neg (by simp), g2, g3, if_neg (by simp), if_pos g4]
theorem shape_begin {k : Int} {t : ByteArray} {A : Tr} {As : List Tr} (h : k = 5) (hA : A.k = 2) (g0 : (A.t.toList == [113, 117, 111, 116, 101]) = false) (g1 : (A.t.toList == [105, 102]) = false) (g2 : (A.t.toList == [100, 101, 102, 105, 110, 101]) = false) (g3 : (A.t.toList == [115, 101, 116, 33]) = false) (g4 : (A.t.toList == [108, 97, 109, 98, 100, 97]) = false) (g5 : (A.t.toList == [98, 101, 103, 105, 110]) = true) :
    shapeP (.mk k t (A :: As)) = if 1 ≤ As.length then some 1 else none := by
  have hk : inL kwL A.t = true := by rw [kwL_any, g0, g1, g2, g3, g4, g5]; rfl
  rw [shape_list h, if_neg (by intro e; exact e ⟨hA, hk⟩), g0, if_neg (by simp), g1, if_neg (by simp), g2, g3, if_neg (by simp), g4, if_neg (by simp), if_pos g5]
theorem shape_call {k : Int} {t : ByteArray} {A : Tr} {As : List Tr} (h : k = 5) (hA : A.k = 2) (g0 : (A.t.toList == [113, 117, 111, 116, 101]) = false) (g1 : (A.t.toList == [105, 102]) = false) (g2 : (A.t.toList == [100, 101, 102, 105, 110, 101]) = false) (g3 : (A.t.toList == [115, 101, 116, 33]) = false) (g4 : (A.t.toList == [108, 97, 109, 98, 100, 97]) = false) (g5 : (A.t.toList == [98, 101, 103, 105, 110]) = false) :
    shapeP (.mk k t (A :: As)) = if inL kwL A.t then none else some 0 := by
  rw [shape_list h, g0, g1, g2, g3, g4, g5]
  cases inL kwL A.t <;> simp [hA]
end Go.Proofs.YtnmofolhfbldjaaGreatDoor

/-
  What coreFrom of impl answers.
-/
namespace Go.Proofs.YtnmofolhfbldjaaGreatDoor
open Go.RowKit
set_option linter.unusedVariables false

/-- The symbol that a list begins with. -/
def headL : List Tr → ByteArray
  | [] => ⟨#[]⟩
  | A :: _ => if A.k = 2 then A.t else ⟨#[]⟩
theorem headP_list {k : Int} {t : ByteArray} {ks : List Tr} (h : k = 5) : headP (.mk k t ks) = headL ks := by
  subst h
  cases ks <;> rfl

set_option maxHeartbeats 8000000 in
set_option maxRecDepth 100000 in
theorem coreFrom_any (k : Int) (t : ByteArray) (z : Value) (ks : List Tr) (w : World) (hK : RowRd w 58 z ks) (h300 : szs ks ≤ 300) :
    Calls Tryz.prog 32 #[.agg (fmC k t z)] w fun e w' => ShapeAns (.mk k t ks) e ∧ Below w.heap.size w w' := by
  have hR := RowAt.new w 58 (fmC k t z)
  have c0 := (fm_c hR).1
  have c2 := (fm_c hR).2.2
  have c1 := (fm_c hR).2.1
  have hB : Below w.heap.size w (w.alloc (.cells (fmC k t z) 58)) := (Below.refl _ _).alloc (Nat.le_refl _) _
  have hK2 := hK.below hB
  obtain ⟨o, cap, hzz⟩ := hK.len
  obtain ⟨n, hn⟩ : ∃ n, n = ks.length := ⟨_, rfl⟩
  rw [← hn] at hzz
  have hls := len_szs ks
  have h300n : n ≤ 300 := by omega
  have HK := hideT' hK2
  have HNN := hideT' hn
  have H300 : Hid (ks.length ≤ 300) := by unfold Hid; omega
  have H3K : Hid (∀ (k1 : Int) (t1 : ByteArray) (ks1 : List Tr) (i : Nat), ks[i]? = some (.mk k1 t1 ks1) → ks1.length ≤ 300) := fun k1 t1 ks1 i h => by have := szs_kid ks i h; have := len_szs ks1; omega
  have HR := hideT' hR
  have HZ := hideT' hzz
  subst hzz
  clear hR hK hK2 hn h300 hls HZ
  by_cases hk2 : k = 2
  · have hkb : (k == 2) = true := by simp [hk2]
    have HE := hideT' (shape_sym (t := t) (ks := ks) hk2)
    have HCALL := hideT' (isVariable_any k t (.slice o n cap) ks (w.alloc (.cells (fmC k t (.slice o n cap)) 58)))
    clear hk2
    go_enter Tryz.func32, Tryz.ntmps32
    go_wp2_with fail
    refine HCALL.out.mono ?_
    rintro e w1 ⟨rfl, hB1⟩
    have hB2 : Below w.heap.size w w1 := hB.trans (hB1.mono hB.size)
    obtain ⟨b, hb⟩ : ∃ b, b = isVar (.mk k t ks) := ⟨_, rfl⟩
    rw [← hb]
    have HB := hideT' hb
    clear hb
    cases b with
    | true =>
      go_wp2
      go_ret2
      exact ⟨ShapeAns.some (n := 0) (by rw [HE.out, ← HB.out]; rfl), hB2⟩
    | false =>
      go_wp2
      go_ret2
      exact ⟨ShapeAns.none _ (by rw [HE.out, ← HB.out]; rfl), hB2⟩
  have hkb2 : (k == 2) = false := by simp [hk2]
  by_cases hk6 : k = 6
  · have hkb : (k == 6) = true := by simp [hk6]
    have HE := hideT' (shape_dot (t := t) (ks := ks) hk6)
    clear hk6 hk2
    go_enter Tryz.func32, Tryz.ntmps32
    go_wp2
    go_ret2
    exact ⟨ShapeAns.none _ HE.out, hB⟩
  have hkb6 : (k == 6) = false := by simp [hk6]
  by_cases hk5 : ¬ k = 5
  · have hkb : (k != 5) = true := by simp [hk5]
    have HE := hideT' (shape_atom (t := t) (ks := ks) hk2 hk6 hk5)
    clear hk6 hk2 hk5
    go_enter Tryz.func32, Tryz.ntmps32
    go_wp2
    go_ret2
    exact ⟨ShapeAns.some (n := 0) HE.out, hB⟩
  have hk5 : k = 5 := Decidable.not_not.1 hk5
  have hkb5 : (k != 5) = false := by simp [hk5]
  have HK5 := hideT' hk5
  have HCALL := hideT' (head_any k t (.slice o n cap) ks (w.alloc (.cells (fmC k t (.slice o n cap)) 58)) HK.out H300.out)
  have HHP : Hid (headP (.mk k t ks) = headL ks) := headP_list hk5
  clear hk2 hk6 hk5
  go_enter Tryz.func32, Tryz.ntmps32
  go_wp2_with fail
  refine HCALL.out.mono ?_
  rintro e w1 ⟨rfl, hB1⟩
  have hB2 : Below w.heap.size w w1 := hB.trans (hB1.mono hB.size)
  have hKw1 := HK.out.below hB1
  have e2 : w1.cell? ⟨w.heap.size, 2, none⟩ = some (.slice o n cap) := (fm_c (RowAt.below HR.out hB1 (by simp))).2.2
  have HK1 := hideT' hKw1
  obtain ⟨nm, hnm⟩ : ∃ nm, nm = headP (.mk k t ks) := ⟨_, rfl⟩
  rw [← hnm]
  obtain ⟨ok, hok⟩ : ∃ ok, ok = headOk (.mk k t ks) := ⟨_, rfl⟩
  rw [← hok]
  rw [HHP.out] at hnm
  have HNM := hideT' hnm
  clear hnm hok hKw1 c0 c1 c2
  cases ks with
  | nil =>
    have hn0 : n = 0 := HNN.out
    subst hn0
    have hnm : nm = ⟨#[]⟩ := HNM.out
    have g0 : (nm.toList == [113, 117, 111, 116, 101]) = false := by rw [hnm, tl_lit]; rfl
    have g1 : (nm.toList == [105, 102]) = false := by rw [hnm, tl_lit]; rfl
    have g2 : (nm.toList == [100, 101, 102, 105, 110, 101]) = false := by rw [hnm, tl_lit]; rfl
    have g3 : (nm.toList == [115, 101, 116, 33]) = false := by rw [hnm, tl_lit]; rfl
    have g4 : (nm.toList == [108, 97, 109, 98, 100, 97]) = false := by rw [hnm, tl_lit]; rfl
    have g5 : (nm.toList == [98, 101, 103, 105, 110]) = false := by rw [hnm, tl_lit]; rfl
    clear hnm
    go_wp2
    go_ret2
    exact ⟨ShapeAns.none _ (shape_nil HK5.out), hB2⟩
  | cons A As =>
    have hlp : (0 : Int) < (n : Int) := by have := HNN.out; simp at this; omega
    have hl1 : n = As.length + 1 := HNN.out
    have HL1 := hideT' hl1
    clear hl1
    by_cases hA : ¬ A.k = 2
    · have hnm : nm = ⟨#[]⟩ := by have := HNM.out; rw [headL, if_neg hA] at this; exact this
      have g0 : (nm.toList == [113, 117, 111, 116, 101]) = false := by rw [hnm, tl_lit]; rfl
      have g1 : (nm.toList == [105, 102]) = false := by rw [hnm, tl_lit]; rfl
      have g2 : (nm.toList == [100, 101, 102, 105, 110, 101]) = false := by rw [hnm, tl_lit]; rfl
      have g3 : (nm.toList == [115, 101, 116, 33]) = false := by rw [hnm, tl_lit]; rfl
      have g4 : (nm.toList == [108, 97, 109, 98, 100, 97]) = false := by rw [hnm, tl_lit]; rfl
      have g5 : (nm.toList == [98, 101, 103, 105, 110]) = false := by rw [hnm, tl_lit]; rfl
      have HIK : Hid (inL kwL nm = false) := by unfold Hid; rw [kwL_any, hnm, tl_lit]; rfl
      have HE := hideT' (shape_other (t := t) (As := As) HK5.out hA)
      clear hnm hA
      go_wp2_with fail
      refine (implIsKeyword_any nm _).mono ?_
      rintro e w2 ⟨rfl, rfl⟩
      rw [HIK.out]
      go_wp2
      go_ret2
      exact ⟨ShapeAns.some (n := 0) HE.out, hB2⟩
    have hA : A.k = 2 := Decidable.not_not.1 hA
    have hnm : nm = A.t := by have := HNM.out; rw [headL, if_pos hA] at this; exact this
    have HA := hideT' hA
    subst hnm
    clear hA HNM HHP
    cases g0 : (A.t.toList == [113, 117, 111, 116, 101]) with
    | true =>
      have HE := hideT' (shape_quote (t := t) (As := As) HK5.out HA.out g0)
      by_cases h2 : n = 2
      · subst h2
        have HE2 : Hid (shapeP (.mk k t (A :: As)) = some 2) := by unfold Hid; rw [HE.out, if_pos (by have := HL1.out; omega)]
        go_wp2
        go_ret2
        exact ⟨ShapeAns.some (n := 2) HE2.out, hB2⟩
      · have HE2 : Hid (shapeP (.mk k t (A :: As)) = none) := by unfold Hid; rw [HE.out, if_neg (by have := HL1.out; omega)]
        have hne : ((n : Int) == 2) = false := by rw [beq_eq_false_iff_ne]; omega
        go_wp2
        go_ret2
        exact ⟨ShapeAns.none _ HE2.out, hB2⟩
    | false =>
    cases g1 : (A.t.toList == [105, 102]) with
    | true =>
      have HE := hideT' (shape_if (t := t) (As := As) HK5.out HA.out g0 g1)
      by_cases h2 : n = 4
      · subst h2
        have HE2 : Hid (shapeP (.mk k t (A :: As)) = some 1) := by unfold Hid; rw [HE.out, if_pos (by have := HL1.out; omega)]
        go_wp2
        go_ret2
        exact ⟨ShapeAns.some (n := 1) HE2.out, hB2⟩
      · have HE2 : Hid (shapeP (.mk k t (A :: As)) = none) := by unfold Hid; rw [HE.out, if_neg (by have := HL1.out; omega)]
        have hne : ((n : Int) == 4) = false := by rw [beq_eq_false_iff_ne]; omega
        go_wp2
        go_ret2
        exact ⟨ShapeAns.none _ HE2.out, hB2⟩
    | false =>
    cases g2 : (A.t.toList == [100, 101, 102, 105, 110, 101]) with
    | true =>
      have HE := hideT' (shape_def (t := t) (As := As) HK5.out HA.out g0 g1 (by rw [g2]; rfl))
      by_cases h2 : n = 3
      · subst h2
        obtain ⟨g, cap', k1, t1, ks1, z1, hz, hA1, d0, d1, d2, hr⟩ := HK1.out.at 1 (by have := HL1.out; simp; omega)
        injection hz with hz1 hz2 hz3
        subst hz1
        have d0' : w1.cell? ⟨g, 3, none⟩ = some (.int .i64 k1) := d0
        have d1' : w1.cell? ⟨g, 3 + 1, none⟩ = some (.string t1) := d1
        have d2' : w1.cell? ⟨g, 3 + 2, none⟩ = some z1 := d2
        have hA2 : As.getD 0 default = .mk k1 t1 ks1 := by
          rw [List.getElem?_cons_succ] at hA1
          rw [List.getD, hA1]; rfl
        have HE2 : Hid (shapeP (.mk k t (A :: As)) = if isVar (.mk k1 t1 ks1) = true then some 2 else none) := by
          unfold Hid
          rw [HE.out, hA2]
          have : As.length = 2 := by have := HL1.out; omega
          simp [this]
        have HCALL2 := hideT' (isVariable_any k1 t1 z1 ks1 w1)
        clear d0 d1 d2 hz2 hz3 hA1 hA2 hr HE
        go_wp2_with fail
        refine HCALL2.out.mono ?_
        rintro e w2 ⟨rfl, hBc⟩
        have hB3 : Below w.heap.size w w2 := hB2.trans (hBc.mono hB2.size)
        obtain ⟨b, hb⟩ : ∃ b, b = isVar (.mk k1 t1 ks1) := ⟨_, rfl⟩
        rw [← hb]
        have HB := hideT' hb
        clear hb
        cases b with
        | true =>
          go_wp2
          go_ret2
          exact ⟨ShapeAns.some (n := 2) (by rw [HE2.out, ← HB.out]; rfl), hB3⟩
        | false =>
          go_wp2
          go_ret2
          exact ⟨ShapeAns.none _ (by rw [HE2.out, ← HB.out]; rfl), hB3⟩
      · have HE2 : Hid (shapeP (.mk k t (A :: As)) = none) := by unfold Hid; rw [HE.out, if_neg (by have := HL1.out; omega)]
        have hne : ((n : Int) == 3) = false := by rw [beq_eq_false_iff_ne]; omega
        go_wp2
        go_ret2
        exact ⟨ShapeAns.none _ HE2.out, hB2⟩
    | false =>
    cases g3 : (A.t.toList == [115, 101, 116, 33]) with
    | true =>
      have HE := hideT' (shape_def (t := t) (As := As) HK5.out HA.out g0 g1 (by rw [g2, g3]; rfl))
      by_cases h2 : n = 3
      · subst h2
        obtain ⟨g, cap', k1, t1, ks1, z1, hz, hA1, d0, d1, d2, hr⟩ := HK1.out.at 1 (by have := HL1.out; simp; omega)
        injection hz with hz1 hz2 hz3
        subst hz1
        have d0' : w1.cell? ⟨g, 3, none⟩ = some (.int .i64 k1) := d0
        have d1' : w1.cell? ⟨g, 3 + 1, none⟩ = some (.string t1) := d1
        have d2' : w1.cell? ⟨g, 3 + 2, none⟩ = some z1 := d2
        have hA2 : As.getD 0 default = .mk k1 t1 ks1 := by
          rw [List.getElem?_cons_succ] at hA1
          rw [List.getD, hA1]; rfl
        have HE2 : Hid (shapeP (.mk k t (A :: As)) = if isVar (.mk k1 t1 ks1) = true then some 2 else none) := by
          unfold Hid
          rw [HE.out, hA2]
          have : As.length = 2 := by have := HL1.out; omega
          simp [this]
        have HCALL2 := hideT' (isVariable_any k1 t1 z1 ks1 w1)
        clear d0 d1 d2 hz2 hz3 hA1 hA2 hr HE
        go_wp2_with fail
        refine HCALL2.out.mono ?_
        rintro e w2 ⟨rfl, hBc⟩
        have hB3 : Below w.heap.size w w2 := hB2.trans (hBc.mono hB2.size)
        obtain ⟨b, hb⟩ : ∃ b, b = isVar (.mk k1 t1 ks1) := ⟨_, rfl⟩
        rw [← hb]
        have HB := hideT' hb
        clear hb
        cases b with
        | true =>
          go_wp2
          go_ret2
          exact ⟨ShapeAns.some (n := 2) (by rw [HE2.out, ← HB.out]; rfl), hB3⟩
        | false =>
          go_wp2
          go_ret2
          exact ⟨ShapeAns.none _ (by rw [HE2.out, ← HB.out]; rfl), hB3⟩
      · have HE2 : Hid (shapeP (.mk k t (A :: As)) = none) := by unfold Hid; rw [HE.out, if_neg (by have := HL1.out; omega)]
        have hne : ((n : Int) == 3) = false := by rw [beq_eq_false_iff_ne]; omega
        go_wp2
        go_ret2
        exact ⟨ShapeAns.none _ HE2.out, hB2⟩
    | false =>
    cases g4 : (A.t.toList == [108, 97, 109, 98, 100, 97]) with
    | true =>
      have HE := hideT' (shape_lambda (t := t) (As := As) HK5.out HA.out g0 g1 g2 g3 g4)
      by_cases h2 : n = 3
      · subst h2
        obtain ⟨g, cap', k1, t1, ks1, z1, hz, hA1, d0, d1, d2, hr⟩ := HK1.out.at 1 (by have := HL1.out; simp; omega)
        injection hz with hz1 hz2 hz3
        subst hz1
        have d0' : w1.cell? ⟨g, 3, none⟩ = some (.int .i64 k1) := d0
        have d1' : w1.cell? ⟨g, 3 + 1, none⟩ = some (.string t1) := d1
        have d2' : w1.cell? ⟨g, 3 + 2, none⟩ = some z1 := d2
        have hA2 : As.getD 0 default = .mk k1 t1 ks1 := by
          rw [List.getElem?_cons_succ] at hA1
          rw [List.getD, hA1]; rfl
        have h3k : ks1.length ≤ 300 := H3K.out k1 t1 ks1 1 hA1
        have HE2 : Hid (shapeP (.mk k t (A :: As)) = if paramsOk (.mk k1 t1 ks1) = true then some 2 else none) := by
          unfold Hid
          rw [HE.out, hA2]
          have : As.length = 2 := by have := HL1.out; omega
          simp [this]
        have HCALL2 := hideT' (goodParameters_any k1 t1 z1 ks1 w1 hr h3k)
        clear d0 d1 d2 hz2 hz3 hA1 hA2 hr HE h3k
        go_wp2_with fail
        refine HCALL2.out.mono ?_
        rintro e w2 ⟨rfl, hBc⟩
        have hB3 : Below w.heap.size w w2 := hB2.trans (hBc.mono hB2.size)
        obtain ⟨b, hb⟩ : ∃ b, b = paramsOk (.mk k1 t1 ks1) := ⟨_, rfl⟩
        rw [← hb]
        have HB := hideT' hb
        clear hb
        cases b with
        | true =>
          go_wp2
          go_ret2
          exact ⟨ShapeAns.some (n := 2) (by rw [HE2.out, ← HB.out]; rfl), hB3⟩
        | false =>
          go_wp2
          go_ret2
          exact ⟨ShapeAns.none _ (by rw [HE2.out, ← HB.out]; rfl), hB3⟩
      · have HE2 : Hid (shapeP (.mk k t (A :: As)) = none) := by unfold Hid; rw [HE.out, if_neg (by have := HL1.out; omega)]
        have hne : ((n : Int) == 3) = false := by rw [beq_eq_false_iff_ne]; omega
        go_wp2
        go_ret2
        exact ⟨ShapeAns.none _ HE2.out, hB2⟩
    | false =>
    cases g5 : (A.t.toList == [98, 101, 103, 105, 110]) with
    | true =>
      have HE := hideT' (shape_begin (t := t) (As := As) HK5.out HA.out g0 g1 g2 g3 g4 g5)
      by_cases h2 : (1 : Int) < (n : Int)
      · have HE2 : Hid (shapeP (.mk k t (A :: As)) = some 1) := by unfold Hid; rw [HE.out, if_pos (by have := HL1.out; omega)]
        go_wp2
        go_ret2
        exact ⟨ShapeAns.some (n := 1) HE2.out, hB2⟩
      · have HE2 : Hid (shapeP (.mk k t (A :: As)) = none) := by unfold Hid; rw [HE.out, if_neg (by have := HL1.out; omega)]
        have hn1 : n = 1 := by omega
        subst hn1
        go_wp2
        go_ret2
        exact ⟨ShapeAns.none _ HE2.out, hB2⟩
    | false =>
      have HE := hideT' (shape_call (t := t) (As := As) HK5.out HA.out g0 g1 g2 g3 g4 g5)
      go_wp2_with fail
      refine (implIsKeyword_any A.t _).mono ?_
      rintro e w2 ⟨rfl, rfl⟩
      obtain ⟨b, hb⟩ : ∃ b, b = inL kwL A.t := ⟨_, rfl⟩
      rw [← hb]
      have HB := hideT' hb
      clear hb
      cases b with
      | true =>
        go_wp2
        go_ret2
        exact ⟨ShapeAns.none _ (by rw [HE.out, ← HB.out]; rfl), hB2⟩
      | false =>
        go_wp2
        go_ret2
        exact ⟨ShapeAns.some (n := 0) (by rw [HE.out, ← HB.out]; rfl), hB2⟩
end Go.Proofs.YtnmofolhfbldjaaGreatDoor

/-
  What allCore of impl answers.
-/
namespace Go.Proofs.YtnmofolhfbldjaaGreatDoor
open Go.RowKit
set_option linter.unusedVariables false

theorem szs_drop : ∀ (As : List Tr) (m : Nat), szs (As.drop m) ≤ szs As
  | [], m => by simp
  | A :: As, 0 => by simp
  | A :: As, m + 1 => by
    have := szs_drop As m
    rw [List.drop_succ_cons, szs]; omega

/-- What allCore should answer for forms of at most N nodes. -/
def CoreN (N : Nat) : Prop := ∀ (As : List Tr), szs As ≤ N → szs As ≤ 300 → ∀ (z : Value) (w : World), RowO w 58 z As →
  Calls Tryz.prog 16 #[z] w fun e w' => e = .returned (.bool (coresP 0 As)) ∧ Below w.heap.size w w'

set_option maxHeartbeats 4000000 in
set_option maxRecDepth 100000 in
theorem allCore_step (N : Nat) (IH : ∀ M, M < N → CoreN M) : CoreN N := by
  intro As hN h300 z w hK
  have hz := zero_fm.1
  have hls := len_szs As
  obtain ⟨o, cap, rfl⟩ := hK.len
  obtain ⟨n, hn⟩ : ∃ n, n = As.length := ⟨_, rfl⟩
  have hn300 : n ≤ 300 := by omega
  have HK := hideT' hK
  have HNN := hideT' hn
  have HIH := hideT' IH
  have HSZ := hideT' (And.intro hN h300)
  rw [← hn]
  clear IH hN h300 hls hK hn
  go_enter Tryz.func16, Tryz.ntmps16
  go_wp2_with fail
  go_loopg [9] n (fun gg i wr => ∃ (j : Nat), gg = n - j ∧ j ≤ n ∧ i = .int .i64 (j : Int) ∧ Hid (coresP 0 As = coresP 0 (As.drop j)) ∧ Below w.heap.size w wr)
  case atStart => exact ⟨0, rfl, by omega, by go_num, rfl, Below.refl _ _⟩
  case round =>
    obtain ⟨j, rfl, hjn, rfl, HM, hW⟩ := hrel
    have hsW := hW.size
    by_cases hlt : (j : Int) < (n : Int)
    · have hj' : j < As.length := by have := HNN.out; omega
      obtain ⟨g, off, cap', k1, t1, ks1, z1, hzz, hA, d0, d1, d2, hr⟩ := (HK.out.below hW).at j hj'
      obtain ⟨o1, p1, rfl⟩ := hr.len
      injection hzz with hz1 hz2 hz3
      subst hz1
      have hR2 : RowAt (wr.alloc (.cells #[.int .i64 k1, .string t1, (.slice o1 ks1.length p1)] 58)) wr.heap.size 58 (fmC k1 t1 (.slice o1 ks1.length p1)) := RowAt.new wr _ _
      have hB2 : Below wr.heap.size wr (wr.alloc (.cells #[.int .i64 k1, .string t1, (.slice o1 ks1.length p1)] 58)) := (Below.refl _ _).alloc (Nat.le_refl _) _
      have hs2 : ((wr.alloc (.cells #[.int .i64 k1, .string t1, (.slice o1 ks1.length p1)] 58))).heap.size = wr.heap.size + 1 := by simp
      have hr2 := hr.below hB2
      have hkid := szs_kid As j hA
      have hAd : As.drop j = .mk k1 t1 ks1 :: As.drop (j + 1) := by
        rw [List.drop_eq_getElem_cons hj']
        rw [List.getElem?_eq_getElem hj'] at hA
        injection hA with hA
        rw [hA]
      have hcm : coresP 0 As = (coreP (.mk k1 t1 ks1) && coresP 0 (As.drop (j + 1))) := by rw [HM.out, hAd, coresP]
      have HCM := hideT' hcm
      have HCALL := hideT' (coreFrom_any k1 t1 (.slice o1 ks1.length p1) ks1 (wr.alloc (.cells #[.int .i64 k1, .string t1, (.slice o1 ks1.length p1)] 58)) hr2 (by have := HSZ.out.2; omega))
      have HR2 := hideT' (And.intro hR2 hr2)
      have HKID := hideT' hkid
      have hBw2 : Below w.heap.size w (wr.alloc (.cells #[.int .i64 k1, .string t1, (.slice o1 ks1.length p1)] 58)) := hW.trans (hB2.mono hsW)
      clear hcm hAd hA hr hz2 hz3 hR2 hr2 hkid HM
      go_wp2_with fail
      refine HCALL.out.mono ?_
      rintro e w3 ⟨⟨m, rfl, hm⟩, hB3⟩
      have hBw3 : Below w.heap.size w w3 := hBw2.trans (hB3.mono hBw2.size)
      have f2 : w3.cell? ⟨wr.heap.size, 2, none⟩ = some (.slice o1 ks1.length p1) := (fm_c (RowAt.below HR2.out.1 hB3 (by omega))).2.2
      have hr3 := HR2.out.2.below hB3
      cases hsh : shapeP (.mk k1 t1 ks1) with
      | none =>
        have HF : Hid (coresP 0 As = false) := by unfold Hid; rw [HCM.out, coreP_eq, hsh]; rfl
        clear hm hr3
        go_wp2
        go_ret
        exact ⟨by rw [HF.out]; rfl, hBw3⟩
      | some q =>
        obtain rfl := hm q hsh
        have hq := shape_le hsh
        obtain ⟨z4, hsl, hO4⟩ := hr3.rowO.from Tryz.underlying31 zero_fm.2 q hq
        have hsl3 := hsl w3
        have HC2 : Hid (coresP 0 As = (coresP 0 (ks1.drop q) && coresP 0 (As.drop (j + 1)))) := by unfold Hid; rw [HCM.out, coreP_eq, hsh]; show (coresP q ks1 && _) = _; rw [coresP_drop ks1 q]
        have HCALL2 := hideT' (HIH.out (szs ks1) (by have := HSZ.out.1; have := HKID.out; omega) (ks1.drop q) (szs_drop ks1 q) (by have := HSZ.out.2; have := HKID.out; have := szs_drop ks1 q; omega) z4 w3 hO4)
        clear hm hsh hq hsl hr3 hO4
        go_wp2_with fail
        refine HCALL2.out.mono ?_
        rintro e w4 ⟨rfl, hB4⟩
        have hBw4 : Below w.heap.size w w4 := hBw3.trans (hB4.mono hBw3.size)
        obtain ⟨b, hb⟩ : ∃ b, b = coresP 0 (ks1.drop q) := ⟨_, rfl⟩
        rw [← hb]
        have HB := hideT' hb
        clear hb
        cases b with
        | false =>
          have HF : Hid (coresP 0 As = false) := by unfold Hid; rw [HC2.out, ← HB.out]; rfl
          go_wp2
          go_ret
          exact ⟨by rw [HF.out]; rfl, hBw4⟩
        | true =>
          have HF : Hid (coresP 0 As = coresP 0 (As.drop (j + 1))) := by unfold Hid; rw [HC2.out, ← HB.out]; rfl
          go_wp2
          go_roundg (n - (j + 1))
          case measure => omega
          case rel => exact ⟨j + 1, rfl, by omega, by go_num, HF, hBw4⟩
    · have HT : Hid (coresP 0 As = true) := by
        unfold Hid
        rw [HM.out, List.drop_eq_nil_of_le (by have := HNN.out; omega), coresP]
      go_wp2
      go_ret
      exact ⟨by rw [HT.out]; rfl, hW⟩

theorem allCore_all : ∀ N, CoreN N := by
  intro N
  induction N using Nat.strongRecOn with
  | _ N IH => exact allCore_step N IH
end Go.Proofs.YtnmofolhfbldjaaGreatDoor

/-
  Rows of texts; what l4Has, l4Twice and l4Params of the model answer.
-/
namespace Go.Proofs.YtnmofolhfbldjaaGreatDoor
open Go.RowKit
set_option linter.unusedVariables false

/-- A row of texts, to be read. -/
def StrRow (w : World) (z : Value) (l : List ByteArray) : Prop :=
  (z = .slice none 0 0 ∧ l = []) ∨ ∃ g o cap, z = .slice (some ⟨g, o, none⟩) l.length cap ∧ l.length ≤ cap ∧ KwAt w g o l ∧ g < w.heap.size
theorem StrRow.len {w : World} {z : Value} {l : List ByteArray} (h : StrRow w z l) : ∃ o cap, z = .slice o l.length cap := by
  rcases h with ⟨rfl, rfl⟩ | ⟨g, o, cap, rfl, _⟩
  · exact ⟨none, 0, rfl⟩
  · exact ⟨_, _, rfl⟩
theorem KwAt.below {w w' : World} {g o B : Nat} {l : List ByteArray} (h : KwAt w g o l) (hB : Below B w w') (hg : g < B) : KwAt w' g o l := fun i hi => by
  rw [hB.cell (p := ⟨g, o + i, none⟩) hg]; exact h i hi
theorem StrRow.below {w w' : World} {z : Value} {l : List ByteArray} (h : StrRow w z l) (hB : Below w.heap.size w w') : StrRow w' z l := by
  rcases h with h | ⟨g, o, cap, h1, h2, h3, h4⟩
  · exact .inl h
  · exact .inr ⟨g, o, cap, h1, h2, h3.below hB h4, Nat.lt_of_lt_of_le h4 hB.size⟩

set_option maxHeartbeats 1000000 in
set_option maxRecDepth 100000 in
theorem l4Has_nil (s : ByteArray) (w : World) : Calls Tryz.prog 42 #[.slice none 0 0, .string s] w fun e w' => e = .returned (.bool false) ∧ w' = w := by
  go_enter Tryz.func42, Tryz.ntmps42
  go_wp2_with fail
  go_loopg [9] 0 (fun g i wr => i = .int .i64 0 ∧ wr = w)
  case atStart => exact ⟨rfl, rfl⟩
  case round =>
    obtain ⟨rfl, rfl⟩ := hrel
    go_wp2
    go_ret
    exact ⟨rfl, rfl⟩
theorem l4Has_row {w : World} {z : Value} {l : List ByteArray} (h : StrRow w z l) (hl : l.length < 2 ^ 40) (s : ByteArray) : Calls Tryz.prog 42 #[z, .string s] w fun e w' => e = .returned (.bool (inL l s)) ∧ w' = w := by
  rcases h with ⟨rfl, rfl⟩ | ⟨g, o, cap, rfl, _, h3, _⟩
  · exact l4Has_nil s w
  · exact l4Has_any g o cap l s w h3 hl

set_option maxHeartbeats 2000000 in
set_option maxRecDepth 100000 in
theorem l4Twice_any {w : World} {z : Value} {l : List ByteArray} (h : StrRow w z l) (hl : l.length < 2 ^ 40) : Calls Tryz.prog 43 #[z] w fun e w' => e = .returned (.bool (twF [] l)) ∧ w' = w := by
  obtain ⟨o, cap, rfl⟩ := h.len
  obtain ⟨n, hn⟩ : ∃ n, n = l.length := ⟨_, rfl⟩
  have hn40 : n < 2 ^ 40 := by omega
  rw [← hn] at h ⊢
  have HT := hideT' h
  have HNN := hideT' hn
  clear h hn hl
  go_enter Tryz.func43, Tryz.ntmps43
  go_wp2_with fail
  go_loopg [7] n (fun g i wr => ∃ (k : Nat), g = n - k ∧ k ≤ n ∧ i = .int .i64 (k : Int) ∧ Hid (twF [] l = twF (l.take k) (l.drop k)) ∧ wr = w)
  case atStart => exact ⟨0, rfl, by omega, by go_num, rfl, rfl⟩
  case round =>
    obtain ⟨k, rfl, hk, rfl, HN, rfl⟩ := hrel
    by_cases h : k < n
    · have hk' : k < l.length := by have := HNN.out; omega
      rcases HT.out with ⟨_, h2⟩ | ⟨g, off, cap', h1, h2, h3, h4⟩
      · rw [h2] at hk'; simp at hk'
      · injection h1 with h1 h1b h1c
        subst h1
        subst h1c
        clear h1b
        have hc := h3 k hk'
        have htw := tw_take l k hk' HN.out
        obtain ⟨x, hx⟩ : ∃ x, x = l.getD k default := ⟨_, rfl⟩
        rw [← hx] at hc htw
        have hlt : (k : Int) < (n : Int) := by omega
        have hcap : (k : Int) ≤ (cap : Int) := by omega
        have HTK : Hid (KwAt wr g off (l.take k)) := fun i hi => by
          have hi2 : i < k := by simp at hi; omega
          have := h3 i (by omega)
          rw [this]
          congr 2
          simp [List.getD, hi2]
        have HLK : Hid ((l.take k).length = k) := by unfold Hid; simp; omega
        have HTW := hideT' htw
        clear h2 h3 h4 htw hx hk'
        go_wp2_with fail
        have hcall := l4Has_any g off cap (l.take k) x wr HTK.out (by rw [HLK.out]; omega)
        rw [HLK.out] at hcall
        refine hcall.mono ?_
        rintro e w2 ⟨rfl, rfl⟩
        obtain ⟨b, hb⟩ : ∃ b, b = inL (l.take k) x := ⟨_, rfl⟩
        rw [← hb]
        have HB := hideT' hb
        clear hb hcall
        cases b with
        | true =>
          have HF : Hid (twF [] l = true) := by unfold Hid; rw [HTW.out, ← HB.out]; rfl
          go_wp2
          go_ret
          exact ⟨by rw [HF.out]; rfl, rfl⟩
        | false =>
          have HF : Hid (twF [] l = twF (l.take (k + 1)) (l.drop (k + 1))) := by unfold Hid; rw [HTW.out, ← HB.out]; rfl
          go_wp2
          go_roundg (n - (k + 1))
          case measure => omega
          case rel => exact ⟨k + 1, rfl, by omega, by go_num, HF, rfl⟩
    · have HY : Hid (twF [] l = false) := by
        have := HN.out
        rwa [List.drop_eq_nil_of_le (by have := HNN.out; omega), twF] at this
      have hge : ¬ (k : Int) < (n : Int) := by omega
      go_wp2
      go_ret
      exact ⟨by rw [HY.out]; rfl, rfl⟩

theorem info_str : (Tryz.prog.info? 9).map (fun i => (i.zero, i.size, i.bytes)) = some (some (.string ⟨#[]⟩), 1, 16) := by kernel_rfl
theorem strRow_of {w : World} {B n : Nat} {z : Value} {l : List ByteArray} (h : w.ownsRow B 9 1 z n (l.map Value.string)) (hn : n = l.length) : StrRow w z l := by
  subst hn
  rcases h.2 with ⟨rfl, h2⟩ | ⟨g, cap, cur, rfl, h2, h3, h4, h5, h6, h7⟩
  · exact .inl ⟨rfl, List.length_eq_zero_iff.1 h2⟩
  · refine .inr ⟨g, 0, cap, rfl, h4, fun i hi => ?_, (Array.getElem?_eq_some_iff.1 h3).1⟩
    rw [cell_of_row w g _ _ _ _ h3]
    have : (cur.toList.take (l.length * 1))[i]? = (l.map Value.string)[i]? := by rw [h7]
    rw [List.getElem?_take, if_pos (by omega), List.getElem?_map, List.getElem?_eq_getElem hi] at this
    rw [Nat.zero_add, List.getD, List.getElem?_eq_getElem hi]
    simpa using this
theorem str_cells (w : World) (t : ByteArray) : ∀ j u, ([Value.string t])[j]? = some u → (w.alloc (.cells #[.string t] 9)).cell? ((⟨w.heap.size, 0, none⟩ : Addr).add j) = some u := fun j u h => by
  rw [addr_mid, cell_of_row _ w.heap.size _ #[.string t] 9 (0, 0) (heap_alloc_new _ _)]
  simpa using h

set_option maxHeartbeats 4000000 in
set_option maxRecDepth 100000 in
theorem l4Params_any (k : Int) (t : ByteArray) (z : Value) (ks : List Tr) (w : World) (hK : RowRd w 29 z ks) (h300 : ks.length ≤ 300) :
    Calls Tryz.prog 27 #[.agg (fmC k t z)] w fun e w' => e = .returned (.bool (paramsOk (.mk k t ks))) ∧ Below w.heap.size w w' := by
  have hz := zero_t4.1
  have hR := RowAt.new w 29 (fmC k t z)
  have c0 := (fm_c hR).1
  have c2 := (fm_c hR).2.2
  have c1 := (fm_c hR).2.1
  have hB : Below w.heap.size w (w.alloc (.cells (fmC k t z) 29)) := (Below.refl _ _).alloc (Nat.le_refl _) _
  have hK2 := hK.below hB
  obtain ⟨o, cap, hzz⟩ := hK.len
  obtain ⟨n, hn⟩ : ∃ n, n = ks.length := ⟨_, rfl⟩
  rw [← hn] at hzz h300
  subst hzz
  have HNN := hideT' hn
  have HK := hideT' hK2
  have HR := hideT' hR
  clear hR hK hK2 hn
  by_cases hk : k = 2
  · have hkb : (k == 2) = true := by simp [hk]
    have HE : Hid (paramsOk (.mk k t ks) = isVar (.mk k t ks)) := by unfold Hid paramsOk; exact if_pos hk
    have HCALL := hideT' (l4Name_any k t (.slice o n cap) ks (w.alloc (.cells (fmC k t (.slice o n cap)) 29)))
    clear hk
    go_enter Tryz.func27, Tryz.ntmps27
    go_wp2_with fail
    refine HCALL.out.mono ?_
    rintro e w1 ⟨rfl, hB1⟩
    have hB2 : Below w.heap.size w w1 := hB.trans (hB1.mono hB.size)
    obtain ⟨b, hb⟩ : ∃ b, b = isVar (.mk k t ks) := ⟨_, rfl⟩
    rw [← hb]
    have HB := hideT' hb
    clear hb
    go_wp2
    go_ret
    exact ⟨by rw [HE.out, ← HB.out]; rfl, hB2⟩
  · have hkb : (k == 2) = false := by simp [hk]
    have HE : Hid (paramsOk (.mk k t ks) = (isL k && (ks.all isVar && !twF [] (ks.map Tr.t)))) := by
      unfold Hid
      rw [params_list hk, ← names_tw]; rfl
    clear hk
    obtain ⟨i0, hi, hzz0, hzz1, hzz2⟩ := info_parts info_str
    go_enter Tryz.func27, Tryz.ntmps27
    go_wp2_with fail
    go_loopg [3, 14] n (fun gg zz i wr => ∃ (j : Nat), gg = n - j ∧ j ≤ n ∧ i = .int .i64 (j : Int) ∧ Hid (wr.ownsRow (w.heap.size + 1) 9 1 zz j (((ks.take j).map Tr.t).map Value.string) ∧ (ks.take j).all isVar = true) ∧ Below (w.heap.size + 1) (w.alloc (.cells (fmC k t (.slice o n cap)) 29)) wr)
    case atStart => exact ⟨0, rfl, by omega, by go_num, ⟨⟨rfl, .inl ⟨rfl, rfl⟩⟩, rfl⟩, Below.refl _ _⟩
    case round =>
      obtain ⟨j, rfl, hjn, rfl, HO, hW⟩ := hrel
      have hsW := hW.size
      simp only [World.size_alloc] at hsW
      have HBW : Hid (Below w.heap.size w wr) := hB.trans (hW.mono (by omega))
      by_cases hlt : (j : Int) < (n : Int)
      · have hj' : j < ks.length := by have := HNN.out; omega
        obtain ⟨g, cap', k1, t1, ks1, z1, hzz, hA, d0, d1, d2, hr⟩ := (HK.out.below (hW.mono (by simp))).at j hj'
        obtain ⟨o1, p1, rfl⟩ := hr.len
        injection hzz with hz1 hz2 hz3
        subst hz1
        have hR2 : RowAt (wr.alloc (.cells #[.int .i64 k1, .string t1, (.slice o1 ks1.length p1)] 29)) wr.heap.size 29 (fmC k1 t1 (.slice o1 ks1.length p1)) := RowAt.new wr _ _
        have hB2 : Below wr.heap.size wr (wr.alloc (.cells #[.int .i64 k1, .string t1, (.slice o1 ks1.length p1)] 29)) := (Below.refl _ _).alloc (Nat.le_refl _) _
        have hs2 : ((wr.alloc (.cells #[.int .i64 k1, .string t1, (.slice o1 ks1.length p1)] 29))).heap.size = wr.heap.size + 1 := by simp
        have HCALL := hideT' (l4Name_any k1 t1 (.slice o1 ks1.length p1) ks1 (wr.alloc (.cells #[.int .i64 k1, .string t1, (.slice o1 ks1.length p1)] 29)))
        have HTK : Hid (ks.take (j + 1) = ks.take j ++ [.mk k1 t1 ks1]) := by unfold Hid; rw [List.take_add_one, hA]; rfl
        have HAM : Hid (Tr.mk k1 t1 ks1 ∈ ks) := List.mem_of_getElem? hA
        have HR2 := hideT' hR2
        have hBw2 : Below (w.heap.size + 1) (w.alloc (.cells (fmC k t (.slice (some ⟨g, 0, none⟩) n cap)) 29)) (wr.alloc (.cells #[.int .i64 k1, .string t1, (.slice o1 ks1.length p1)] 29)) := hW.trans (hB2.mono hsW)
        have HO2 : Hid ((wr.alloc (.cells #[.int .i64 k1, .string t1, (.slice o1 ks1.length p1)] 29)).ownsRow (w.heap.size + 1) 9 1 u3 j (((ks.take j).map Tr.t).map Value.string)) := own_heap HO.out.1 (fun b hb => hB2.block b (by
          rcases HO.out.1.2 with ⟨rfl, _⟩ | ⟨b', cap, cur, rfl, _, h3, _⟩
          · simp [Value.ownBlock] at hb
          · simp [Value.ownBlock] at hb
            subst hb
            exact (Array.getElem?_eq_some_iff.1 h3).1))
        clear hz2 hz3 hA hr hR2
        go_wp2_with fail
        refine HCALL.out.mono ?_
        rintro e w3 ⟨rfl, hB3⟩
        have hs3 := hB3.size
        have hBw3 : Below (w.heap.size + 1) (w.alloc (.cells (fmC k t (.slice (some ⟨g, 0, none⟩) n cap)) 29)) w3 := hBw2.trans (hB3.mono (by omega))
        obtain ⟨b, hb⟩ : ∃ b, b = isVar (.mk k1 t1 ks1) := ⟨_, rfl⟩
        rw [← hb]
        have HB := hideT' hb
        clear hb
        cases b with
        | false =>
          have HF : Hid (paramsOk (.mk k t ks) = false) := by
            unfold Hid
            rw [HE.out]
            have : ks.all isVar = false := List.all_eq_false.2 ⟨_, HAM.out, by rw [← HB.out]; simp⟩
            rw [this]; simp
          have HB4 : Hid (Below w.heap.size w w3) := hB.trans (hBw3.mono (by omega))
          go_wp2
          go_ret
          exact ⟨by rw [HF.out]; rfl, HB4.out⟩
        | true =>
          have f1 : w3.cell? ⟨wr.heap.size, 1, none⟩ = some (.string t1) := (fm_c (RowAt.below HR2.out hB3 (by omega))).2.1
          have hlt3 : ∀ b, u3.ownBlock = some b → w.heap.size + 1 ≤ b ∧ b < (wr.alloc (.cells #[.int .i64 k1, .string t1, (.slice o1 ks1.length p1)] 29)).heap.size := fun b hb => by
            rcases HO2.out.2 with ⟨rfl, _⟩ | ⟨b', cap, cur, rfl, h2, h3, _⟩
            · simp [Value.ownBlock] at hb
            · simp [Value.ownBlock] at hb
              subst hb
              exact ⟨h2, (Array.getElem?_eq_some_iff.1 h3).1⟩
          have HO3 : Hid (w3.ownsRow (w.heap.size + 1) 9 1 u3 j (((ks.take j).map Tr.t).map Value.string)) := own_heap HO2.out (fun b hb => hB3.block b (hlt3 b hb).2)
          have HLT := hideT' hlt3
          clear hlt3
          go_wp2_with (at_builtin; refine append_own3 _ rfl _ _ 70 rfl (w.heap.size + 1) 9 i0 (.string ⟨#[]⟩) 1 16 Tryz.underlying70 hi hzz0 hzz1 hzz2 rfl (by decide) u3 j (((ks.take j).map Tr.t).map Value.string) rfl (HO3.out.alloc _) ⟨w3.heap.size, 0, none⟩ 1 1 [.string t1] rfl rfl (str_cells w3 t1) (by intro u hu; simp at hu; subst hu; rfl) (by omega) (by unfold maxLen; omega) (by omega) (by simp; omega) ?_; intro v6 w6 hv6 hg6 hb6)
          have HEND : Hid (w6.ownsRow (w.heap.size + 1) 9 1 v6 (j + 1) (((ks.take (j + 1)).map Tr.t).map Value.string) ∧ (ks.take (j + 1)).all isVar = true) := by
            refine ⟨?_, ?_⟩
            · rw [HTK.out, List.map_append, List.map_append]; exact hv6
            · rw [HTK.out, List.all_append, HO.out.2, List.all_cons, ← HB.out]; rfl
          have hs6 := hg6.size
          simp only [World.size_alloc] at hs6
          have HB6 : Hid (Below (w.heap.size + 1) (w.alloc (.cells (fmC k t (.slice (some ⟨g, 0, none⟩) n cap)) 29)) w6) := (hBw3.alloc (by omega) _).grown hg6 (by simp; omega) (fun b hb => (HLT.out b hb).1)
          clear hv6 hg6 hb6 hs6
          go_wp2
          go_roundg (n - (j + 1))
          case measure => omega
          case rel => exact ⟨j + 1, rfl, by omega, by go_num, HEND, HB6.out⟩
      · have hje : j = ks.length := by have := HNN.out; omega
        have HO2 : Hid (StrRow wr u3 (ks.map Tr.t) ∧ ks.all isVar = true) := by
          have h1 := HO.out
          rw [hje, List.take_length] at h1
          exact ⟨strRow_of h1.1 (by simp), h1.2⟩
        have e0 : wr.cell? ⟨w.heap.size, 0, none⟩ = some (.int .i64 k) := (fm_c (RowAt.below HR.out hW (by omega))).1
        have HL40 : Hid ((ks.map Tr.t).length < 2 ^ 40) := by unfold Hid; rw [List.length_map]; omega
        clear hje
        go_wp2_with fail
        refine (l3IsList_any k _).mono ?_
        rintro e w1 ⟨rfl, rfl⟩
        obtain ⟨b, hb⟩ : ∃ b, b = isL k := ⟨_, rfl⟩
        rw [← hb]
        have HB := hideT' hb
        clear hb
        cases b with
        | false =>
          have HF : Hid (paramsOk (.mk k t ks) = false) := by unfold Hid; rw [HE.out, ← HB.out]; rfl
          go_wp2
          go_ret
          exact ⟨by rw [HF.out]; rfl, HBW.out⟩
        | true =>
          go_wp2_with fail
          refine (l4Twice_any HO2.out.1 HL40.out).mono ?_
          rintro e w9 ⟨rfl, rfl⟩
          obtain ⟨b2, hb2⟩ : ∃ b2, b2 = twF [] (ks.map Tr.t) := ⟨_, rfl⟩
          rw [← hb2]
          have HB2 := hideT' hb2
          clear hb2
          have HF : Hid (paramsOk (.mk k t ks) = !b2) := by unfold Hid; rw [HE.out, ← HB.out, HO2.out.2, ← HB2.out]; rfl
          go_wp2
          go_ret
          exact ⟨by rw [HF.out]; rfl, HBW.out⟩
end Go.Proofs.YtnmofolhfbldjaaGreatDoor
