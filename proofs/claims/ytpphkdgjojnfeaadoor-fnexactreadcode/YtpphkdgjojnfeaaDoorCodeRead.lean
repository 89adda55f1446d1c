/-
  Code out of its text: plain facts.
-/
import Derived.Test.YtpphkdgjojnfeaaDoorCodeMath
import Derived.Test.YtpphkdgjojnfeaaDoorCutB
namespace Go.Proofs.YtpphkdgjojnfeaaDoor
open Go.RowKit
set_option linter.unusedVariables false

/-- The number of at most six digits, -1 where it is none. -/
def numP (l : List UInt8) : Int := if l.length ≤ 6 ∧ canonB l = true then (dval l : Int) else -1
/-- What has this text. -/
def Sol (s : List UInt8) (L : List Ins) : Prop := codeOk L = true ∧ codeTxt L = s

theorem cutB_at (c : UInt8) : ∀ (p q : List UInt8), p.contains c = false → cutB c (p ++ c :: q) = (p, q, true)
  | [], q, _ => by simp [cutB]
  | d :: p, q, h => by
    rw [List.contains_cons, Bool.or_eq_false_iff] at h
    have hd : d ≠ c := fun e => by rw [e] at h; simp at h
    have := cutB_at c p q h.2
    simp only [List.cons_append, cutB, if_neg hd, this]
theorem cutB_back (c : UInt8) : ∀ (l : List UInt8), (cutB c l).2.2 = true → l = (cutB c l).1 ++ c :: (cutB c l).2.1
  | [], h => by simp [cutB] at h
  | d :: m, h => by
    by_cases hd : d = c
    · simp [cutB, hd]
    · have h2 : (cutB c m).2.2 = true := by simpa only [cutB, if_neg hd] using h
      have := cutB_back c m h2
      simp only [cutB, if_neg hd, List.cons_append]
      rw [← this]
theorem dig_ne {l : List UInt8} (h : l.all isDig = true) (c : UInt8) (hc : isDig c = false) : l.contains c = false := by
  rw [Bool.eq_false_iff]
  intro he
  rw [List.contains_iff_mem] at he
  have := List.all_eq_true.1 h c he
  rw [hc] at this; cases this
theorem itoa_dig {n : Int} (h : 0 ≤ n) : canonB (Lib.itoa n) = true ∧ (dval (Lib.itoa n) : Int) = n ∧ (Lib.itoa n).all isDig = true := by
  obtain ⟨k, rfl⟩ := Int.eq_ofNat_of_zero_le h
  rw [itoa_nat]
  have hd := dec_canon k
  exact ⟨hd.1, by rw [hd.2], canon_all hd.1⟩
theorem numP_itoa {n : Int} (h0 : 0 ≤ n) (h1 : n ≤ 100000) : numP (Lib.itoa n) = n := by
  have h := itoa_dig h0
  unfold numP
  rw [if_pos ⟨itoa_small h0 h1, h.1⟩, h.2.1]
theorem itoa_numP {l : List UInt8} (h : 0 ≤ numP l) : l = Lib.itoa (numP l) := by
  unfold numP at h ⊢
  by_cases hc : l.length ≤ 6 ∧ canonB l = true
  · rw [if_pos hc] at h ⊢
    have h2 := itoa_dig (n := (dval l : Int)) (by omega)
    exact canon_inj hc.2 h2.1 (by omega)
  · rw [if_neg hc] at h; omega
/-- An instruction's line, without its end. -/
def insLine (x : Ins) : List UInt8 := Lib.itoa x.1 ++ 32 :: (Lib.itoa x.2.1 ++ 32 :: x.2.2.data.toList)
theorem insTxt_line (x : Ins) : insTxt x = insLine x ++ [10] := by simp [insTxt, insLine]
theorem line_no10 {x : Ins} (h : insOk x = true) : (insLine x).contains 10 = false := by
  obtain ⟨a, b, c, d, e, f⟩ := insOk_parts h
  have h1 := dig_ne (itoa_dig (n := x.1) (by omega)).2.2 10 (by decide)
  have h2 := dig_ne (itoa_dig c).2.2 10 (by decide)
  unfold insLine
  rw [Bool.eq_false_iff] at *
  intro hm
  rw [List.contains_iff_mem] at hm
  simp only [List.mem_append, List.mem_cons] at hm
  rcases hm with hm | hm | hm | hm | hm
  · exact h1 (List.contains_iff_mem.2 hm)
  · exact absurd hm (by decide)
  · exact h2 (List.contains_iff_mem.2 hm)
  · exact absurd hm (by decide)
  · exact f (List.contains_iff_mem.2 hm)
theorem cut_line {x : Ins} (h : insOk x = true) (r : List UInt8) : cutB 10 (insTxt x ++ r) = (insLine x, r, true) := by
  rw [insTxt_line, List.append_assoc]
  exact cutB_at 10 _ _ (line_no10 h)
theorem cut_first {x : Ins} (h : insOk x = true) : cutB 32 (insLine x) = (Lib.itoa x.1, Lib.itoa x.2.1 ++ 32 :: x.2.2.data.toList, true) := by
  obtain ⟨a, b, c, d, e, f⟩ := insOk_parts h
  exact cutB_at 32 _ _ (dig_ne (itoa_dig (n := x.1) (by omega)).2.2 32 (by decide))
theorem cut_second {x : Ins} (h : insOk x = true) : cutB 32 (Lib.itoa x.2.1 ++ 32 :: x.2.2.data.toList) = (Lib.itoa x.2.1, x.2.2.data.toList, true) := by
  obtain ⟨a, b, c, d, e, f⟩ := insOk_parts h
  exact cutB_at 32 _ _ (dig_ne (itoa_dig c).2.2 32 (by decide))
theorem insTxt_ne (x : Ins) : insTxt x ≠ [] := by rw [insTxt_line]; simp
theorem codeTxt_cons (x : Ins) (M : List Ins) : codeTxt (x :: M) = insTxt x ++ codeTxt M := by simp [codeTxt]
theorem codeTxt_nil {M : List Ins} (h : codeTxt M = []) : M = [] := by
  cases M with
  | nil => rfl
  | cons x M => rw [codeTxt_cons] at h; exact absurd (List.append_eq_nil_iff.1 h).1 (insTxt_ne x)
theorem codeTxt_append (l M : List Ins) : codeTxt (l ++ M) = codeTxt l ++ codeTxt M := by simp [codeTxt]
theorem codeOk_parts {L : List Ins} (h : codeOk L = true) : L.length ≤ 3000 ∧ L.all insOk = true := by
  unfold codeOk at h
  simpa using h
/-- A line tells its instruction. -/
theorem line_ins {x : Ins} (h : insOk x = true) : numP (cutB 32 (insLine x)).1 = x.1 ∧ numP (cutB 32 (cutB 32 (insLine x)).2.1).1 = x.2.1 ∧ (cutB 32 (cutB 32 (insLine x)).2.1).2.1 = x.2.2.data.toList := by
  obtain ⟨a, b, c, d, e, f⟩ := insOk_parts h
  rw [cut_first h]
  simp only
  rw [cut_second h]
  exact ⟨numP_itoa (by omega) (by omega), numP_itoa c d, rfl⟩
theorem code_inj : ∀ (L L' : List Ins), L.all insOk = true → L'.all insOk = true → codeTxt L = codeTxt L' → L = L'
  | [], L', _, _, h => (codeTxt_nil h.symm).symm
  | x :: M, [], _, _, h => by rw [codeTxt_nil (M := x :: M) h]
  | x :: M, y :: M', h1, h2, h => by
    simp only [List.all_cons, Bool.and_eq_true] at h1 h2
    rw [codeTxt_cons, codeTxt_cons] at h
    have e := congrArg (cutB 10) h
    rw [cut_line h1.1, cut_line h2.1] at e
    simp only [Prod.mk.injEq, and_true] at e
    have l1 := line_ins h1.1
    have l2 := line_ins h2.1
    rw [e.1] at l1
    have e1 : x.1 = y.1 := by rw [← l1.1, ← l2.1]
    have e2 : x.2.1 = y.2.1 := by rw [← l1.2.1, ← l2.2.1]
    have e3 : x.2.2 = y.2.2 := ByteArray.ext (Array.ext' (by rw [← l1.2.2, ← l2.2.2]))
    have exy : x = y := Prod.ext e1 (Prod.ext e2 e3)
    rw [exy, code_inj M M' h1.2 h2.2 e.2]
theorem Sol.one {s : List UInt8} {L L' : List Ins} (h : Sol s L) (h' : Sol s L') : L = L' :=
  code_inj L L' (codeOk_parts h.1).2 (codeOk_parts h'.1).2 (h.2.trans h'.2.symm)

/-- What has come of a text so far, and what is left of it: every solution goes on from there. -/
def Ahead (s : List UInt8) (l : List Ins) (r : List UInt8) : Prop := ∀ L, Sol s L → ∃ M, L = l ++ M ∧ codeTxt M = r
theorem Ahead.start (s : List UInt8) : Ahead s [] s := fun L h => ⟨L, rfl, h.2⟩
theorem Ahead.done {s : List UInt8} {l L : List Ins} (h : Ahead s l []) (hL : Sol s L) : L = l := by
  obtain ⟨M, e, hM⟩ := h L hL
  rw [e, codeTxt_nil hM, List.append_nil]
/-- Where something is left of a text that has a solution the next line is an instruction's. -/
theorem Ahead.next {s : List UInt8} {l : List Ins} {r : List UInt8} (h : Ahead s l r) (hr : r ≠ []) {L : List Ins} (hL : Sol s L) :
    ∃ x M, insOk x = true ∧ L = l ++ x :: M ∧ r = insTxt x ++ codeTxt M ∧ cutB 10 r = (insLine x, codeTxt M, true) ∧ l.length < 3000 := by
  obtain ⟨M, e, hM⟩ := h L hL
  cases M with
  | nil => rw [← hM] at hr; exact absurd rfl hr
  | cons x M =>
    have h2 := codeOk_parts hL.1
    have hx : insOk x = true := List.all_eq_true.1 h2.2 x (by rw [e]; simp)
    rw [codeTxt_cons] at hM
    refine ⟨x, M, hx, e, hM.symm, by rw [← hM]; exact cut_line hx _, ?_⟩
    have := h2.1
    rw [e, List.length_append, List.length_cons] at this
    omega
theorem Ahead.step {s : List UInt8} {l : List Ins} {r : List UInt8} (h : Ahead s l r) (hr : r ≠ []) {y : Ins} {r' : List UInt8} (hy : ∀ x M, insOk x = true → r = insTxt x ++ codeTxt M → y = x ∧ r' = codeTxt M) : Ahead s (l ++ [y]) r' := fun L hL => by
  obtain ⟨x, M, hx, e, e2, _, _⟩ := h.next hr hL
  obtain ⟨rfl, e3⟩ := hy x M hx e2
  exact ⟨M, by rw [e]; simp, e3.symm⟩
/-- If all that has come has a text, that and what is left make the whole. -/
def Back (s : List UInt8) (l : List Ins) (r : List UInt8) : Prop := l.all insOk = true → codeTxt l ++ r = s
theorem Back.start (s : List UInt8) : Back s [] s := fun _ => rfl
theorem Ahead.line {s : List UInt8} {l : List Ins} {r : List UInt8} (h : Ahead s l r) (hr : r ≠ []) {L : List Ins} (hL : Sol s L) :
    (cutB 10 r).2.2 = true ∧ (cutB 32 (cutB 10 r).1).2.2 = true ∧ (cutB 32 (cutB 32 (cutB 10 r).1).2.1).2.2 = true ∧ l.length < 3000 := by
  obtain ⟨x, M, hx, e, e2, e3, e4⟩ := h.next hr hL
  rw [e3]
  simp only
  rw [cut_first hx]
  simp only
  rw [cut_second hx]
  exact ⟨trivial, trivial, rfl, e4⟩
theorem Ahead.parse {s : List UInt8} {l : List Ins} {r : List UInt8} (h : Ahead s l r) (hr : r ≠ []) (c : ByteArray) (hc : c.data.toList = (cutB 32 (cutB 32 (cutB 10 r).1).2.1).2.1) :
    Ahead s (l ++ [(numP (cutB 32 (cutB 10 r).1).1, numP (cutB 32 (cutB 32 (cutB 10 r).1).2.1).1, c)]) (cutB 10 r).2.1 := by
  refine h.step hr fun x M hx e => ?_
  have h1 := cut_line hx (codeTxt M)
  rw [← e] at h1
  have h2 := line_ins hx
  rw [h1] at hc ⊢
  simp only at hc ⊢
  exact ⟨Prod.ext h2.1 (Prod.ext h2.2.1 (ByteArray.ext (Array.ext' (by rw [hc, h2.2.2])))), trivial⟩
theorem Back.parse {s : List UInt8} {l : List Ins} {r : List UInt8} (h : Back s l r) (c : ByteArray) (hc : c.data.toList = (cutB 32 (cutB 32 (cutB 10 r).1).2.1).2.1) (h1 : (cutB 10 r).2.2 = true) (h2 : (cutB 32 (cutB 10 r).1).2.2 = true) (h3 : (cutB 32 (cutB 32 (cutB 10 r).1).2.1).2.2 = true) :
    Back s (l ++ [(numP (cutB 32 (cutB 10 r).1).1, numP (cutB 32 (cutB 32 (cutB 10 r).1).2.1).1, c)]) (cutB 10 r).2.1 := fun hall => by
  simp only [List.all_append, List.all_cons, List.all_nil, Bool.and_true, Bool.and_eq_true] at hall
  obtain ⟨p1, p2, p3, p4, p5, p6⟩ := insOk_parts hall.2
  simp only at p1 p3
  have e1 := cutB_back 10 r h1
  have e2 := cutB_back 32 _ h2
  have e3 := cutB_back 32 _ h3
  have f1 := itoa_numP (l := (cutB 32 (cutB 10 r).1).1) (by omega)
  have f2 := itoa_numP (l := (cutB 32 (cutB 32 (cutB 10 r).1).2.1).1) (by omega)
  rw [← h hall.1, codeTxt_append, List.append_assoc]
  congr 1
  rw [codeTxt_cons, insTxt_line]
  unfold insLine
  simp only
  rw [← f1, ← f2, hc, ← e3, ← e2]
  conv => rhs; rw [e1]
  simp [codeTxt]
end Go.Proofs.YtpphkdgjojnfeaaDoor
