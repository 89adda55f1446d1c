/-
  Reading a real: the plain reader, as the model and as the program cut the text.
-/
import Derived.Test.YtoiegaggekgmjaaDoorCutB
import Derived.Test.YtoiegaggekgmjaaDoorPkCutNum
import Derived.Test.YtoiegaggekgmjaaDoorRealMath
namespace Go.Proofs.YtoiegaggekgmjaaDoor
open Go.RowKit
set_option linter.unusedVariables false

/-- One to forty digits. -/
def plainB (l : List UInt8) : Bool := l.all isDig && (decide (1 ≤ l.length) && decide (l.length ≤ 40))
/-- The power of ten of a text. -/
def expP (l : List UInt8) : Option Int :=
  if (canonB (bodyN l) && decide ((bodyN l).length ≤ 2)) && !(negN l && (bodyN l == [48])) then some (if negN l then -(dval (bodyN l) : Int) else (dval (bodyN l) : Int)) else none
/-- As the model cuts: at e, and what stands ahead at the point. -/
def decP (l : List UInt8) : Option (List UInt8 × List UInt8 × Int) :=
  match (if (cutB 101 l).2.2 then expP (cutB 101 l).2.1 else some 0) with
  | none => none
  | some x => if plainB (cutB 46 (cutB 101 l).1).1 && (!(cutB 46 (cutB 101 l).1).2.2 || plainB (cutB 46 (cutB 101 l).1).2.1) then some ((cutB 46 (cutB 101 l).1).1, (cutB 46 (cutB 101 l).1).2.1, x) else none
/-- As the program reads: digits, perhaps a point and digits, and what stands behind. -/
def tenP (r : List UInt8) : Option Int := if r = [] then some 0 else if r.take 1 = [101] then expP (r.drop 1) else none
def lenB (l : List UInt8) : Bool := decide (1 ≤ l.length) && decide (l.length ≤ 40)
def decI (l : List UInt8) : Option (List UInt8 × List UInt8 × Int) :=
  if lenB (l.takeWhile isDig) then
    if (l.dropWhile isDig).take 1 = [46] then
      if lenB (((l.dropWhile isDig).drop 1).takeWhile isDig) then
        match tenP (((l.dropWhile isDig).drop 1).dropWhile isDig) with
        | none => none
        | some x => some (l.takeWhile isDig, ((l.dropWhile isDig).drop 1).takeWhile isDig, x)
      else none
    else
      match tenP (l.dropWhile isDig) with
      | none => none
      | some x => some (l.takeWhile isDig, [], x)
  else none

theorem cutB_app (c : UInt8) : ∀ (a r : List UInt8), (∀ x ∈ a, x ≠ c) → cutB c (a ++ r) = (a ++ (cutB c r).1, (cutB c r).2.1, (cutB c r).2.2)
  | [], r, _ => rfl
  | d :: a, r, h => by
    have h0 : d ≠ c := h d (List.mem_cons_self ..)
    have := cutB_app c a r (fun x hx => h x (List.mem_cons_of_mem _ hx))
    simp only [List.cons_append, cutB, if_neg h0, this]
theorem digs_ne {a : List UInt8} (ha : a.all isDig = true) {c : UInt8} (hc : isDig c = false) : ∀ x ∈ a, x ≠ c := by
  intro x hx e
  have := List.all_eq_true.1 ha x hx
  rw [e, hc] at this
  cases this
theorem take_digs (l : List UInt8) : (l.takeWhile isDig).all isDig = true := by
  induction l with
  | nil => rfl
  | cons c m ih =>
    by_cases h : isDig c = true
    · rw [List.takeWhile_cons_of_pos h, List.all_cons, h, ih]; rfl
    · rw [List.takeWhile_cons_of_neg h]; rfl
theorem drop_head (l : List UInt8) : l.dropWhile isDig = [] ∨ ∃ c m, l.dropWhile isDig = c :: m ∧ isDig c = false := by
  induction l with
  | nil => exact .inl rfl
  | cons c m ih =>
    by_cases h : isDig c = true
    · rw [List.dropWhile_cons_of_pos h]; exact ih
    · rw [List.dropWhile_cons_of_neg h]; exact .inr ⟨c, m, rfl, by simpa using h⟩
theorem plain_len {a : List UInt8} (ha : a.all isDig = true) : plainB a = lenB a := by unfold plainB lenB; rw [ha, Bool.true_and]
theorem plain_not {a : List UInt8} {c : UInt8} {m : List UInt8} (hc : isDig c = false) : plainB (a ++ c :: m) = false := by
  unfold plainB; rw [List.all_append, List.all_cons, hc, Bool.false_and, Bool.and_false, Bool.false_and]

/-- The two ways of cutting read the same. -/
theorem decI_eq (l : List UInt8) : decI l = decP l := by
  obtain ⟨a, ha⟩ : ∃ a, l.takeWhile isDig = a := ⟨_, rfl⟩
  obtain ⟨r, hr⟩ : ∃ r, l.dropWhile isDig = r := ⟨_, rfl⟩
  have hl : l = a ++ r := by rw [← ha, ← hr, List.takeWhile_append_dropWhile]
  have hda : a.all isDig = true := by rw [← ha]; exact take_digs l
  have hh := drop_head l
  rw [hr] at hh
  unfold decI
  rw [ha, hr]
  have e101 := digs_ne hda (c := 101) (by decide)
  have e46 := digs_ne hda (c := 46) (by decide)
  unfold decP
  rw [hl, cutB_app 101 a r e101]
  rcases hh with rfl | ⟨c, m, rfl, hc⟩
  · simp only [cutB, List.append_nil]
    have h2 := cutB_app 46 a [] e46
    simp only [List.append_nil, cutB] at h2
    rw [h2]
    simp only [tenP, plain_len hda]
    simp
  · by_cases h1 : c = 101
    · subst h1
      have h2 := cutB_app 46 a [] e46
      simp only [List.append_nil, cutB] at h2
      simp only [cutB, if_true, List.append_nil, h2, plain_len hda, tenP]
      simp
      cases expP m with
      | none => simp
      | some x => simp
    · by_cases h4 : c = 46
      · subst h4
        simp only [cutB, if_neg h1]
        have h2 := cutB_app 46 a (46 :: (cutB 101 m).1) e46
        rw [h2]
        simp only [cutB, if_true, List.append_nil, plain_len hda]
        obtain ⟨b, hb⟩ : ∃ b, m.takeWhile isDig = b := ⟨_, rfl⟩
        obtain ⟨q, hq⟩ : ∃ q, m.dropWhile isDig = q := ⟨_, rfl⟩
        have hm : m = b ++ q := by rw [← hb, ← hq, List.takeWhile_append_dropWhile]
        have hdb : b.all isDig = true := by rw [← hb]; exact take_digs m
        have hh := drop_head m
        rw [hq] at hh
        simp only [List.take_succ_cons, List.take_zero, List.drop_succ_cons, List.drop_zero, if_true, hb, hq]
        rw [hm, cutB_app 101 b q (digs_ne hdb (by decide))]
        rcases hh with rfl | ⟨c, n, rfl, hc'⟩
        · simp only [cutB, List.append_nil, plain_len hdb, tenP]
          cases lenB a <;> cases lenB b <;> simp
        · by_cases h5 : c = 101
          · subst h5
            simp only [cutB, if_true, List.append_nil, plain_len hdb, tenP]
            cases hx : expP n <;> cases lenB a <;> cases lenB b <;> simp [hx]
          · simp only [cutB, if_neg h5, plain_not hc', tenP]
            simp [h5]
            split <;> simp
      · simp only [cutB, if_neg h1]
        have h2 := cutB_app 46 a (c :: (cutB 101 m).1) e46
        rw [h2]
        simp only [cutB, if_neg h4, plain_not hc, tenP]
        simp [h1, h4]
        split <;> simp
/-- The quotient of digits whose point stands n places on. -/
def topR (d : List UInt8) (n : Int) : Nat := rval 10 d * 10 ^ n.toNat
def botR (n : Int) : Nat := 1 * 10 ^ (-n).toNat
/-- What ReadReal answers. -/
def ReadAns (l : List UInt8) (e : Ending) : Prop :=
  (bodyN l = [105, 110, 102] ∧ e = .returned (.tuple #[.agg #[.bool (negN l), .int .i64 0, .int .i64 151], .bool true])) ∨
  ((bodyN l ≠ [105, 110, 102] ∧ decP (bodyN l) = none) ∧ e = .returned (.tuple #[.agg #[.bool false, .int .i64 0, .int .i64 0], .bool false])) ∨
  (bodyN l ≠ [105, 110, 102] ∧ ∃ (a b : List UInt8) (x : Int) (R : Nat), decP (bodyN l) = some (a, b, x) ∧ Near (topR (a ++ b) (x - (b.length : Int))) (botR (x - (b.length : Int))) R ∧ e = .returned (.tuple #[.agg #[.bool (negN l), .int .i64 (manOf R : Nat), .int .i64 (expOf R)], .bool true]))
theorem ReadAns.same {l : List UInt8} {e e' : Ending} (h : ReadAns l e) (h' : ReadAns l e') : ∃ (a : Bool) (b c : Int) (d : Bool), e = .returned (.tuple #[.agg #[.bool a, .int .i64 b, .int .i64 c], .bool d]) ∧ e' = e := by
  rcases h with ⟨h1, rfl⟩ | ⟨⟨h1, h2⟩, rfl⟩ | ⟨h1, a, b, x, R, h2, hR, rfl⟩
  · rcases h' with ⟨_, rfl⟩ | ⟨⟨g1, _⟩, _⟩ | ⟨g1, _⟩
    · exact ⟨_, _, _, _, rfl, rfl⟩
    · exact absurd h1 g1
    · exact absurd h1 g1
  · rcases h' with ⟨g1, _⟩ | ⟨_, rfl⟩ | ⟨_, a, b, x, R, g2, _⟩
    · exact absurd g1 h1
    · exact ⟨_, _, _, _, rfl, rfl⟩
    · rw [h2] at g2; cases g2
  · rcases h' with ⟨g1, _⟩ | ⟨⟨_, g2⟩, _⟩ | ⟨_, a', b', x', R', g2, hR', rfl⟩
    · exact absurd g1 h1
    · rw [h2] at g2; cases g2
    · rw [h2] at g2
      cases g2
      rw [hR.one hR']
      exact ⟨_, _, _, _, rfl, rfl⟩
theorem dig_dg {c : UInt8} (h : isDig c = true) : dg c < 10 := by
  unfold isDig at h
  simp only [Bool.and_eq_true, decide_eq_true_eq] at h
  unfold dg digI
  split <;> omega
theorem digs_rd {l : List UInt8} (h : l.all isDig = true) : rdigs 10 l = true := by
  unfold rdigs
  rw [List.all_eq_true] at h ⊢
  exact fun c hc => decide_eq_true (dig_dg (h c hc))
theorem cutB_no {c : UInt8} : ∀ {l : List UInt8}, (cutB c l).2.2 = false → (cutB c l).2.1 = []
  | [], _ => rfl
  | d :: m, h => by
    by_cases hd : d = c
    · simp [cutB, hd] at h
    · simp only [cutB, if_neg hd] at h ⊢
      exact cutB_no h
end Go.Proofs.YtoiegaggekgmjaaDoor
