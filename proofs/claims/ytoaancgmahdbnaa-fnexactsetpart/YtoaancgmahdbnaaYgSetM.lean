/-
  A part is set: the heap that is left, in the program's words and in the model's.
-/
import Derived.Test.YtoaancgmahdbnaaYgFullS
namespace Go.Proofs.Ytoaancgmahdbnaa
open Go.RowKit Go.Shelf BL
set_option linter.unusedVariables false

/-- May it be set? -/
def canS (m : Hp) (a b : Int) : Bool := rootOk m.cells.length a && (rootOk m.cells.length b && !(m.cells.getD a.toNat default).1)
def setC (c : Cl) (second : Bool) (b : Int) : Cl := if second then (c.1, c.2.1, c.2.2.1, b) else (c.1, c.2.1, b, c.2.2.2)
def setCl (cs : List Cl) (a : Nat) (second : Bool) (b : Int) : List Cl := cs.set a (setC (cs.getD a default) second b)
/-- A number is put into a rising list. -/
def putL (a : Int) : Bool → List Int → List Int
  | put, [] => if put then [a] else []
  | put, n :: l => if put && decide (a < n) then a :: n :: putL a false l else n :: putL a put l
theorem putL_no (a : Int) (l : List Int) : putL a false l = l := by
  induction l with
  | nil => rfl
  | cons n l ih => rw [putL, Bool.false_and]; simp [ih]
theorem mem_putL (a x : Int) : ∀ l : List Int, x ∈ putL a true l ↔ x = a ∨ x ∈ l
  | [] => by simp [putL]
  | n :: l => by
    rw [putL, Bool.true_and]
    split
    · rw [putL_no]; simp
    · rw [List.mem_cons, mem_putL a x l, List.mem_cons]
      constructor
      · rintro (h | h | h)
        · exact .inr (.inl h)
        · exact .inl h
        · exact .inr (.inr h)
      · rintro (h | h | h)
        · exact .inr (.inl h)
        · exact .inl h
        · exact .inr (.inr h)
theorem putL_len (a : Int) : ∀ (put : Bool) (l : List Int), (putL a put l).length ≤ l.length + 1
  | put, [] => by rw [putL]; split <;> simp
  | put, n :: l => by
    rw [putL]
    split
    · rw [putL_no]; simp
    · have := putL_len a put l; simp; omega
theorem rise_putL {lim a : Int} (hal : a < lim) : ∀ (l : List Int) (least : Int), rise lim least l = true → least ≤ a → a ∉ l → rise lim least (putL a true l) = true
  | [], least, _, h, _ => by rw [putL, if_pos rfl]; simp [rise, h, hal]
  | n :: l, least, hr, h, hn => by
    rw [rise, Bool.and_eq_true, Bool.and_eq_true, decide_eq_true_eq, decide_eq_true_eq] at hr
    rw [putL, Bool.true_and]
    split
    · rename_i hlt
      have hlt := of_decide_eq_true hlt
      rw [putL_no, rise, rise, Bool.and_eq_true, Bool.and_eq_true, Bool.and_eq_true, Bool.and_eq_true, decide_eq_true_eq, decide_eq_true_eq, decide_eq_true_eq, decide_eq_true_eq]
      exact ⟨h, hal, by omega, hr.2.1, hr.2.2⟩
    · rename_i hlt
      have hlt : ¬ a < n := fun hh => hlt (decide_eq_true hh)
      have hne : n ≠ a := fun e => hn (by rw [e]; exact List.mem_cons_self ..)
      rw [rise, Bool.and_eq_true, Bool.and_eq_true, decide_eq_true_eq, decide_eq_true_eq]
      exact ⟨hr.1, hr.2.1, rise_putL hal l (n + 1) hr.2.2 (by omega) (fun hm => hn (List.mem_cons_of_mem _ hm))⟩
theorem bAt_nmkL (l : List Int) {i : Nat} (hi : i < 200) (h : ∀ n ∈ l, 0 ≤ n) : bAt (nmk l) i = decide ((i : Int) ∈ l) := by
  unfold nmk
  rw [bAt_rootsM l _ i (by rw [List.length_replicate]; exact hi) h]
  have : bAt (List.replicate 200 false) i = false := by unfold bAt; simp only [List.getD, List.getElem?_replicate]; split <;> rfl
  rw [this, Bool.false_or]
theorem marks_ext {xs ys : List Bool} (h1 : xs.length = 200) (h2 : ys.length = 200) (h : ∀ i, i < 200 → bAt xs i = bAt ys i) : xs = ys := by
  have := bAt_ext (xs := xs) (ys := ys) (by rw [h1, h2])
  refine of_decide_eq_true ?_
  rw [← this, List.all_eq_true]
  intro i hi
  rw [h i (by rw [← h1]; exact List.mem_range.1 hi)]; simp
/-- A mark that is put is a number put. -/
theorem nmk_put (l : List Int) (a : Nat) (ha : a < 200) (h : ∀ n ∈ l, 0 ≤ n) : (nmk l).set a true = nmk (putL (a : Int) true l) := by
  refine marks_ext (by rw [List.length_set, nmk_len]) (nmk_len _) fun i hi => ?_
  rw [bAt_set _ _ _ (by rw [nmk_len]; exact hi), bAt_nmkL l hi h, bAt_nmkL _ hi (fun n hn => by rcases (mem_putL _ _ _).1 hn with e | e; omega; exact h n e)]
  rw [Bool.eq_iff_iff]
  simp only [Bool.or_eq_true, decide_eq_true_eq, mem_putL]
  constructor
  · rintro (h | h)
    · exact .inl (by omega)
    · exact .inr h
  · rintro (h | h)
    · exact .inl (by omega)
    · exact .inr h
/-- One that is there changes nothing. -/
theorem nmk_there (l : List Int) (a : Nat) (ha : a < 200) (h : ∀ n ∈ l, 0 ≤ n) (hm : (a : Int) ∈ l) : (nmk l).set a true = nmk l := by
  refine marks_ext (by rw [List.length_set, nmk_len]) (nmk_len _) fun i hi => ?_
  rw [bAt_set _ _ _ (by rw [nmk_len]; exact hi), bAt_nmkL l hi h]
  by_cases e : i = a
  · subst e; simp [hm]
  · simp [e]
/-- Rising notes come back out of their marks. -/
theorem idxI_noted (l : List Int) (od : Nat) (hod : od ≤ 200) (h : rise (od : Int) 0 l = true) : idxI ((nmk l).take od) od = l := by
  unfold idxI
  rw [noted_idx l od hod h, List.map_map]
  have hm := rise_mem l 0 h
  conv => rhs; rw [← List.map_id l]
  apply List.map_congr_left
  intro x hx
  have := (hm x hx).1
  simp; omega
/-- Must it be noted anew? -/
def putS (m : Yg) (a b : Int) : Bool := decide (a < m.h.old) && (decide (m.h.old ≤ b) && !decide (a ∈ m.noted))
def setM (m : Yg) (a b : Int) (second : Bool) : Yg := ⟨⟨m.h.old, setCl m.h.cells a.toNat second b, m.h.roots⟩, putL a (putS m a b) m.noted⟩
def setOut (m : Yg) (a : Int) (second : Bool) (b : Int) : Yg := if ygOk m && canS m.h a b then setM m a b second else ⟨⟨0, [], []⟩, []⟩
theorem setOut_small {m : Yg} (a : Int) (second : Bool) (b : Int) (h : YgSmall m 1048576) : YgSmall (setOut m a second b) 1048576 := by
  unfold setOut
  split
  · rename_i hok
    rw [Bool.and_eq_true] at hok
    have hsnd := ygOk_snd hok.1
    have hris : rise m.h.old 0 m.noted = true := by
      have := hok.1
      unfold ygOk at this
      rw [Bool.and_eq_true, Bool.and_eq_true] at this
      exact this.2.1
    obtain ⟨hl1, _, hold, _, _⟩ := sndOk_all hsnd
    obtain ⟨od, hod⟩ : ∃ od : Nat, m.h.old = (od : Int) := ⟨m.h.old.toNat, by omega⟩
    have hle : m.noted.length ≤ 200 := by
      rw [hod] at hris
      rw [← idxI_noted m.noted od (by omega) hris]
      exact Nat.le_trans (idxI_len _ _) (by omega)
    refine ⟨⟨?_, h.1.2⟩, ?_⟩
    · show (List.set _ _ _).length ≤ _
      rw [List.length_set]; exact h.1.1
    · exact Nat.le_trans (putL_len _ _ _) (by omega)
  · exact ⟨⟨by simp, by simp⟩, by simp⟩
/-- What the marks are in the end. -/
def setN (m : Yg) (a b : Int) : List Bool := if a < m.h.old ∧ m.h.old ≤ b then (nmk m.noted).set a.toNat true else nmk m.noted
theorem setN_len (m : Yg) (a b : Int) : (setN m a b).length = 200 := by
  unfold setN
  split
  · rw [List.length_set, nmk_len]
  · exact nmk_len _
theorem setN_idx (m : Yg) (a b : Int) (hok : ygOk m = true) (ha : 0 ≤ a) (od : Nat) (hod : m.h.old = (od : Int)) (hle : od ≤ 200) : idxI ((setN m a b).take od) od = putL a (putS m a b) m.noted := by
  have hris : rise (od : Int) 0 m.noted = true := by
    unfold ygOk at hok
    rw [Bool.and_eq_true, Bool.and_eq_true, hod] at hok
    exact hok.2.1
  have hm := rise_mem m.noted 0 hris
  have h0 : ∀ n ∈ m.noted, 0 ≤ n := fun n hn => (hm n hn).1
  obtain ⟨k, hk⟩ : ∃ k : Nat, a = (k : Int) := ⟨a.toNat, by omega⟩
  unfold setN putS
  rw [hod, hk]
  by_cases h1 : (k : Int) < (od : Int)
  · by_cases h2 : (od : Int) ≤ b
    · rw [if_pos ⟨h1, h2⟩, decide_eq_true h1, decide_eq_true h2, Bool.true_and, Bool.true_and, Int.toNat_natCast]
      by_cases h3 : (k : Int) ∈ m.noted
      · rw [decide_eq_true h3, nmk_there _ _ (by omega) h0 h3, Bool.not_true, putL_no]
        exact idxI_noted _ _ hle hris
      · rw [decide_eq_false h3, nmk_put _ _ (by omega) h0, Bool.not_false]
        exact idxI_noted _ _ hle (rise_putL h1 _ _ hris (by omega) h3)
    · rw [if_neg (fun h => h2 h.2), decide_eq_false h2, Bool.false_and, Bool.and_false, putL_no]
      exact idxI_noted _ _ hle hris
  · rw [if_neg (fun h => h1 h.1), decide_eq_false h1, Bool.false_and, putL_no]
    exact idxI_noted _ _ hle hris
/-- One value of a row of records is changed. -/
theorem rec_set1 {X : Type} [Inhabited X] (f : X → List Value) (c : Nat) (hc : ∀ x, (f x).length = c) (l : List X) (i j : Nat) (hi : i < l.length) (hj : j < c) (v : Value) (d : X) (hd : f d = (f (l.getD i default)).set j v) : (l.flatMap f).set (i * c + j) v = (l.set i d).flatMap f := by
  rw [rec_set f l i d hi, rec_split f l i hi, hd]
  have hlen : ((l.take i).flatMap f).length = i * c := by rw [rec_len f c hc, List.length_take, Nat.min_eq_left (by omega)]
  rw [List.append_assoc, List.append_assoc, List.set_append_right _ _ (by omega), hlen, Nat.add_sub_cancel_left, List.set_append_left _ _ (by rw [hc]; exact hj)]
end Go.Proofs.Ytoaancgmahdbnaa
