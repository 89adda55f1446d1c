/-
  What is reached in a heap, and what is left of it: plain functions over lists.
-/
import Derived.Test.YtelciainidklgaaDoorSpecHeap
namespace Go.Proofs.YtelciainidklgaaDoor
open Go.RowKit
set_option linter.unusedVariables false

/-- The numbers of the cells fit. -/
def clRange (cs : List Cl) : Prop := ∀ i, i < cs.length → -9223372036854775808 ≤ (cs.getD i default).2.1 ∧ (cs.getD i default).2.1 ≤ 9223372036854775807
theorem clsOk_at {cs : List Cl} {k i : Nat} (h : clsOk k cs = true) (hi : i < cs.length) : clOk (k + i) (cs.getD i default) = true := by
  induction cs generalizing k i with
  | nil => simp at hi
  | cons c l ih =>
    rw [clsOk, Bool.and_eq_true] at h
    cases i with
    | zero => simpa using h.1
    | succ i =>
      have := ih h.2 (show i < l.length by simpa using hi)
      rw [show k + (i + 1) = k + 1 + i by omega]; simpa using this
/-- The parts of a good pair. -/
theorem clOk_pair {i : Nat} {d : Cl} (h : clOk i d = true) (hp : d.1 = false) : d.2.1 = 0 ∧ ∃ a b : Nat, d.2.2.1 = (a : Int) ∧ d.2.2.2 = (b : Int) ∧ a < i ∧ b < i := by
  unfold clOk at h
  rw [hp] at h
  simp only [Bool.false_eq_true, if_false, Bool.and_eq_true, decide_eq_true_eq] at h
  obtain ⟨h0, ⟨h1, h2⟩, h3, h4⟩ := h
  exact ⟨h0, d.2.2.1.toNat, d.2.2.2.toNat, by omega, by omega, by omega, by omega⟩

theorem hpOk_all {h : Hp} (hk : hpOk h = true) : h.cells.length ≤ 200 ∧ h.roots.length ≤ 60 ∧ (0 ≤ h.old ∧ h.old ≤ (h.cells.length : Int)) ∧ clsOk 0 h.cells = true ∧ ∀ i, i < h.roots.length → ∃ r : Nat, h.roots.getD i default = (r : Int) ∧ r < h.cells.length := by
  unfold hpOk at hk
  simp only [Bool.and_eq_true, decide_eq_true_eq] at hk
  refine ⟨hk.1, hk.2.1, hk.2.2.1, hk.2.2.2.1, fun i hi => ?_⟩
  have := List.all_eq_true.1 hk.2.2.2.2 (h.roots.getD i default) (by simp [List.getD, List.getElem?_eq_getElem hi])
  unfold rootOk at this
  simp only [Bool.and_eq_true, decide_eq_true_eq] at this
  exact ⟨(h.roots.getD i default).toNat, by omega, by omega⟩
theorem pair_at {cs : List Cl} (h : clsOk 0 cs = true) {i : Nat} (hi : i < cs.length) (hp : (cs.getD i default).1 = false) : (cs.getD i default).2.1 = 0 ∧ ∃ a b : Nat, (cs.getD i default).2.2.1 = (a : Int) ∧ (cs.getD i default).2.2.2 = (b : Int) ∧ a < i ∧ b < i := by
  have := clsOk_at h hi
  rw [Nat.zero_add] at this
  exact clOk_pair this hp

def bAt (ms : List Bool) (i : Nat) : Bool := ms.getD i false
/-- Those roots are marked. -/
def rootsM (ms : List Bool) (rs : List Int) : List Bool := rs.foldl (fun m r => m.set r.toNat true) ms
/-- The parts of a marked pair are marked. -/
def stepM (cs : List Cl) (ms : List Bool) (i : Nat) : List Bool := if bAt ms i && !(cs.getD i default).1 then (ms.set (cs.getD i default).2.2.1.toNat true).set (cs.getD i default).2.2.2.toNat true else ms
/-- The last k cells have been looked at, from the back. -/
def downM (cs : List Cl) (ms : List Bool) : Nat → List Bool
  | 0 => ms
  | k + 1 => stepM cs (downM cs ms k) (cs.length - 1 - k)
def firstM (n old : Nat) : List Bool := List.replicate old true ++ List.replicate (n - old) false
/-- What is reached, with the cells ahead of old. -/
def reachM (m : Hp) (old : Nat) : List Bool := downM m.cells (rootsM (firstM m.cells.length old) m.roots) m.cells.length
theorem rootsM_len (ms : List Bool) (rs : List Int) : (rootsM ms rs).length = ms.length := by
  unfold rootsM
  induction rs generalizing ms with
  | nil => rfl
  | cons r rs ih => rw [List.foldl_cons, ih, List.length_set]
theorem stepM_len (cs : List Cl) (ms : List Bool) (i : Nat) : (stepM cs ms i).length = ms.length := by
  unfold stepM; split <;> simp
theorem downM_len (cs : List Cl) (ms : List Bool) (k : Nat) : (downM cs ms k).length = ms.length := by
  induction k with
  | zero => rfl
  | succ k ih => rw [downM, stepM_len, ih]
theorem firstM_len {n old : Nat} (h : old ≤ n) : (firstM n old).length = n := by simp [firstM]; omega
theorem reachM_len {m : Hp} {old : Nat} (h : old ≤ m.cells.length) : (reachM m old).length = m.cells.length := by
  unfold reachM; rw [downM_len, rootsM_len, firstM_len h]
theorem rootsM_take {ms : List Bool} {rs : List Int} {k : Nat} (hk : k < rs.length) : rootsM ms (rs.take (k + 1)) = (rootsM ms (rs.take k)).set (rs.getD k default).toNat true := by
  have : rs.getD k default = rs[k] := by simp [List.getD, List.getElem?_eq_getElem hk]
  rw [this, List.take_succ_eq_append_getElem hk]
  unfold rootsM
  rw [List.foldl_append]; rfl
theorem firstM_set {n k : Nat} (hk : k < n) : (firstM n k).set k true = firstM n (k + 1) := by
  unfold firstM
  obtain ⟨p, hp⟩ : ∃ p, n - k = p + 1 := ⟨n - k - 1, by omega⟩
  rw [List.set_append_right _ _ (by simp), List.length_replicate, Nat.sub_self, hp, List.replicate_succ, List.set_cons_zero, show n - (k + 1) = p by omega, List.replicate_succ', List.append_assoc]; rfl
theorem firstM_nil (n : Nat) : firstM n 0 = List.replicate n false := rfl

/-- The numbers of those below k that are marked. -/
def idxTo (ms : List Bool) (k : Nat) : List Nat := (List.range k).filter (bAt ms)
theorem idxTo_succ (ms : List Bool) (k : Nat) : idxTo ms (k + 1) = if bAt ms k then idxTo ms k ++ [k] else idxTo ms k := by
  unfold idxTo
  rw [List.range_succ, List.filter_append]
  cases h : bAt ms k <;> simp [h]
theorem idxTo_len (ms : List Bool) (k : Nat) : (idxTo ms k).length ≤ k := by
  unfold idxTo
  exact Nat.le_trans (List.length_filter_le _ _) (by simp)
def idxI (ms : List Bool) (k : Nat) : List Int := (idxTo ms k).map fun i : Nat => (i : Int)
theorem idxI_succ (ms : List Bool) (k : Nat) : idxI ms (k + 1) = if bAt ms k then idxI ms k ++ [(k : Int)] else idxI ms k := by
  unfold idxI; rw [idxTo_succ]; split <;> simp
theorem idxI_len (ms : List Bool) (k : Nat) : (idxI ms k).length ≤ k := by unfold idxI; rw [List.length_map]; exact idxTo_len ms k

/-- A cell with the new numbers of its parts. -/
def movC (to : List Int) (c : Cl) : Cl := if c.1 then c else (c.1, c.2.1, to.getD c.2.2.1.toNat default, to.getD c.2.2.2.toNat default)
/-- The first k cells have been looked at: the new numbers, and what stays. -/
def moveTo (cs : List Cl) (ms : List Bool) : Nat → List Int × List Cl
  | 0 => (List.replicate cs.length 0, [])
  | k + 1 => if bAt ms k then ((moveTo cs ms k).1.set k ((moveTo cs ms k).2.length : Int), (moveTo cs ms k).2 ++ [movC (moveTo cs ms k).1 (cs.getD k default)]) else moveTo cs ms k
def movR (to : List Int) (rs : List Int) : List Int := rs.map fun r => to.getD r.toNat default
/-- What is left of a heap. -/
def moveM (m : Hp) (ms : List Bool) : Hp := ⟨((moveTo m.cells ms m.cells.length).2.length : Int), (moveTo m.cells ms m.cells.length).2, movR (moveTo m.cells ms m.cells.length).1 m.roots⟩
theorem moveTo_len (cs : List Cl) (ms : List Bool) (k : Nat) : (moveTo cs ms k).1.length = cs.length ∧ (moveTo cs ms k).2.length ≤ k := by
  induction k with
  | zero => exact ⟨by simp [moveTo], by simp [moveTo]⟩
  | succ k ih =>
    rw [moveTo]
    split
    · exact ⟨by rw [List.length_set]; exact ih.1, by simp; exact ih.2⟩
    · exact ⟨ih.1, by omega⟩
theorem movR_take {to rs : List Int} {k : Nat} (hk : k < rs.length) : movR to (rs.take (k + 1)) = movR to (rs.take k) ++ [to.getD (rs.getD k default).toNat default] := by
  have : rs.getD k default = rs[k] := by simp [List.getD, List.getElem?_eq_getElem hk]
  rw [this, List.take_succ_eq_append_getElem hk]
  unfold movR
  rw [List.map_append]; rfl
def collM (m : Hp) : Hp := moveM m (reachM m 0)
def minorM (m : Hp) : Hp := moveM m (reachM m m.old.toNat)

theorem InR.cells4 {w : World} {o : Option Addr} {n cap : Nat} {cs : List Cl} (h : InR w (.slice o n cap) cellL 4 cs) {i : Nat} (hi : i < cs.length) {lf : Bool} {k a c : Int} (hd : (lf, k, a, c) = cs.getD i default) :
    ∃ g, o = some ⟨g, 0, none⟩ ∧ w.cell? ⟨g, i * 4, none⟩ = some (.bool lf) ∧ w.cell? ⟨g, i * 4 + 1, none⟩ = some (.int .i64 k) ∧ w.cell? ⟨g, i * 4 + 2, none⟩ = some (.int .i64 a) ∧ w.cell? ⟨g, i * 4 + 3, none⟩ = some (.int .i64 c) := by
  obtain ⟨o', cap', e, h⟩ := h
  cases e
  obtain ⟨g, rfl, hlt, hc⟩ := h (by intro e; rw [e] at hi; simp at hi)
  exact ⟨g, rfl, hc i 0 _ hi (by rw [← hd]; rfl), hc i 1 _ hi (by rw [← hd]; rfl), hc i 2 _ hi (by rw [← hd]; rfl), hc i 3 _ hi (by rw [← hd]; rfl)⟩

/-- Rows of marks. -/
abbrev boolL : Bool → List Value := fun x => [Value.bool x]
theorem boolL_len (x : Bool) : (boolL x).length = 1 := rfl
theorem bool_cell {w : World} {b : Nat} {ms : List Bool} (h : RecAt w b 4 boolL ms) {i : Nat} (hi : i < ms.length) : w.cell? ⟨b, i, none⟩ = some (.bool (bAt ms i)) := by
  have := RecAt.cell (c := 1) h boolL_len i 0 hi (by decide)
  simpa [boolL, bAt] using this
theorem int_cell {w : World} {b : Nat} {ms : List Int} (h : RecAt w b 3 intL ms) {i : Nat} (hi : i < ms.length) : w.cell? ⟨b, i, none⟩ = some (.int .i64 (ms.getD i default)) := by
  have := RecAt.cell (c := 1) h intL_len i 0 hi (by decide)
  simpa [intL] using this
theorem info_bool : (Tryd.prog.info? 4).map (fun i => (i.zero, i.size, i.bytes)) = some (some (.bool false), 1, 1) := by kernel_rfl
theorem make_bool (n : Nat) (hn : n ≤ 1048576) (w : World) : (Instr.makeSlice 109 (.int .i64 (n : Int)) (.int .i64 (n : Int))).run Tryd.prog w = .ok (.slice (some ⟨w.heap.size, 0, none⟩) n n) (w.alloc (.cells ((List.replicate n false).flatMap boolL).toArray 4)) := by
  obtain ⟨i, hi, hzz⟩ := Option.map_eq_some_iff.1 info_bool
  simp only [Prod.mk.injEq] at hzz
  obtain ⟨hz, hs, hb⟩ := hzz
  have hr := run_make (P := Tryd.prog) w 109 4 i _ Tryd.underlying109 hi hz .i64 .i64 n n (by omega) (Int.le_refl _) (by rw [hb]; omega) (by omega)
  simp only [Int.toNat_natCast, hs] at hr
  rw [hr, ← made_rec boolL 1 boolL_len _ false (by rfl) n]
  rfl
end Go.Proofs.YtelciainidklgaaDoor
