/-
  Instructions and their text: plain definitions.
-/
import Derived.Test.YtkmjpebfaodfaaaDoorNumAll
import Derived.Test.YtkmjpebfaodfaaaDoorRecInstr
namespace Go.Proofs.YtkmjpebfaodfaaaDoor
open Go.RowKit
set_option linter.unusedVariables false

/-- An instruction: Op, A, Text. -/
abbrev Ins := Int × Int × ByteArray
/-- Has it a text? -/
def insOk (x : Ins) : Bool := (decide (1 ≤ x.1) && decide (x.1 ≤ 13)) && ((decide (0 ≤ x.2.1) && decide (x.2.1 ≤ 100000)) && (decide (x.2.2.size ≤ 1500) && !(x.2.2.data.toList.contains 10)))
def insTxt (x : Ins) : List UInt8 := Lib.itoa x.1 ++ (32 :: (Lib.itoa x.2.1 ++ (32 :: (x.2.2.data.toList ++ [10]))))
def codeOk (l : List Ins) : Bool := decide (l.length ≤ 3000) && l.all insOk
def codeTxt (l : List Ins) : List UInt8 := l.flatMap insTxt
/-- What CodeText answers. -/
def codeAns (l : List Ins) : Ending := .returned (.tuple #[.string (if codeOk l then ⟨(codeTxt l).toArray⟩ else ⟨#[]⟩), .bool (codeOk l)])

theorem insOk_parts {x : Ins} (h : insOk x = true) : 1 ≤ x.1 ∧ x.1 ≤ 13 ∧ 0 ≤ x.2.1 ∧ x.2.1 ≤ 100000 ∧ x.2.2.size ≤ 1500 ∧ x.2.2.data.toList.contains 10 = false := by
  unfold insOk at h
  simp only [Bool.and_eq_true, decide_eq_true_eq, Bool.not_eq_true'] at h
  obtain ⟨⟨a, b⟩, ⟨c, d⟩, e, f⟩ := h
  exact ⟨a, b, c, d, e, f⟩
theorem itoa_small {n : Int} (h0 : 0 ≤ n) (h1 : n ≤ 100000) : (Lib.itoa n).length ≤ 6 := by
  obtain ⟨k, rfl⟩ := Int.eq_ofNat_of_zero_le h0
  rw [itoa_nat]
  have hd := dec_canon k
  exact (canon_len_le hd.1 6 (by omega)).2 (by rw [hd.2]; omega)
theorem insTxt_len {x : Ins} (h : insOk x = true) : (insTxt x).length ≤ 1600 := by
  obtain ⟨a, b, c, d, e, _⟩ := insOk_parts h
  have h1 := itoa_small (n := x.1) (by omega) (by omega)
  have h2 := itoa_small c d
  have e2 : x.2.2.data.toList.length = x.2.2.size := by simp
  unfold insTxt
  simp only [List.length_append, List.length_cons, List.length_nil, e2]
  omega
theorem codeTxt_len {l : List Ins} (h : l.all insOk = true) : (codeTxt l).length ≤ 1600 * l.length := by
  induction l with
  | nil => simp [codeTxt]
  | cons x l ih =>
    simp only [List.all_cons, Bool.and_eq_true] at h
    have h1 := insTxt_len h.1
    have h2 := ih h.2
    unfold codeTxt at *
    rw [List.flatMap_cons, List.length_append, List.length_cons]
    omega
theorem codeTxt_take {l : List Ins} {k : Nat} (hk : k < l.length) : codeTxt (l.take (k + 1)) = codeTxt (l.take k) ++ insTxt (l.getD k default) := by
  unfold codeTxt
  have : l.getD k default = l[k] := by simp [List.getD, List.getElem?_eq_getElem hk]
  rw [this, List.take_succ_eq_append_getElem hk, List.flatMap_append]
  simp
theorem insAll_take {l : List Ins} {k : Nat} (hk : k < l.length) : (l.take (k + 1)).all insOk = ((l.take k).all insOk && insOk (l.getD k default)) := by
  have : l.getD k default = l[k] := by simp [List.getD, List.getElem?_eq_getElem hk]
  rw [this, List.take_succ_eq_append_getElem hk, List.all_append]
  simp
theorem insAll_no {l : List Ins} {k : Nat} (hk : k < l.length) (h : insOk (l.getD k default) = false) : l.all insOk = false := by
  have : l.getD k default = l[k] := by simp [List.getD, List.getElem?_eq_getElem hk]
  rw [this] at h
  rw [List.all_eq_false]
  exact ⟨l[k], List.getElem_mem hk, by rw [h]; simp⟩
theorem insAll_drop {l : List Ins} {k : Nat} (hk : k < l.length) (h : l.all insOk = (l.drop k).all insOk) : l.all insOk = (insOk (l.getD k default) && (l.drop (k + 1)).all insOk) := by
  have : l.getD k default = l[k] := by simp [List.getD, List.getElem?_eq_getElem hk]
  rw [h, this, List.drop_eq_getElem_cons hk, List.all_cons]
theorem codeAns_no {l : List Ins} (h : codeOk l = false) : codeAns l = .returned (.tuple #[.string ⟨#[]⟩, .bool false]) := by
  unfold codeAns; rw [h]; rfl
theorem codeAns_yes {l : List Ins} (h : codeOk l = true) : codeAns l = .returned (.tuple #[.string ⟨(codeTxt l).toArray⟩, .bool true]) := by
  unfold codeAns; rw [h]; rfl
end Go.Proofs.YtkmjpebfaodfaaaDoor
