/-
  The terms of a continued fraction, and rows of their texts.
-/
import Derived.Test.YthbnacikomimfaaDoorPkSpecReadNum
import Derived.Test.YthbnacikomimfaaDoorFacRow
import Derived.Test.YthbnacikomimfaaDoorSpecRoot
namespace Go.Proofs.YthbnacikomimfaaDoor
open Go.RowKit
set_option linter.unusedVariables false

/-- The terms behind the first one, by Euclid. -/
def eu (D R : Nat) : List Nat := if h : R = 0 then [] else (D / R) :: eu R (D % R)
termination_by R
decreasing_by exact Nat.mod_lt _ (Nat.pos_of_ne_zero h)
theorem eu_zero (D : Nat) : eu D 0 = [] := by rw [eu]; simp
theorem eu_pos {D R : Nat} (h : R ≠ 0) : eu D R = (D / R) :: eu R (D % R) := by rw [eu]; simp [h]
/-- What is left behind the first term. -/
def rem0 (g : Bool) (n m : Nat) : Nat := if g && decide (n % m ≠ 0) then m - n % m else n % m
theorem rem0_lt {g : Bool} {n m : Nat} (hm : m ≠ 0) : rem0 g n m < m := by
  have h := Nat.mod_lt n (Nat.pos_of_ne_zero hm)
  unfold rem0
  split
  · rename_i hc
    have : n % m ≠ 0 := by
      have := (Bool.and_eq_true_iff.1 hc).2
      simpa using this
    omega
  · exact h
theorem rem0_eq {g : Bool} {n m : Nat} (hm : m ≠ 0) : sg g n - sg g (flo g n m * m) = ((rem0 g n m : Nat) : Int) := by
  have h2 := Nat.mod_lt n (Nat.pos_of_ne_zero hm)
  have h1 : n = n / m * m + n % m := by rw [Nat.mul_comm]; exact (Nat.div_add_mod n m).symm
  unfold rem0 flo sg
  generalize n % m = r at *
  generalize n / m = q at *
  obtain ⟨P, hP⟩ : ∃ P, q * m = P := ⟨_, rfl⟩
  have e : (q + 1) * m = P + m := by rw [Nat.add_mul, Nat.one_mul, hP]
  rw [hP] at h1
  cases g with
  | false =>
    simp only [Bool.false_and, Bool.false_eq_true, if_false, Nat.add_zero, hP]
    omega
  | true =>
    by_cases h0 : r = 0
    · rw [decide_eq_false (by simp [h0])]
      simp only [Bool.and_false, Bool.false_eq_true, if_false, if_true, Nat.add_zero, hP]
      omega
    · rw [decide_eq_true h0]
      simp only [Bool.and_self, if_true, e]
      omega
/-- The terms of a number: each with its sign. -/
def trm (g : Bool) (n m : Nat) : List (Bool × Nat) := (g, flo g n m) :: (eu m (rem0 g n m)).map (fun q => (false, q))
theorem trm_last {g : Bool} {n m : Nat} (h : rem0 g n m = 0) : trm g n m = [(g, flo g n m)] := by
  unfold trm; rw [h, eu_zero]; rfl
theorem trm_next {g : Bool} {n m : Nat} (h : rem0 g n m ≠ 0) : trm g n m = (g, flo g n m) :: trm false m (rem0 g n m) := by
  unfold trm
  rw [eu_pos h]
  have e1 : flo false m (rem0 g n m) = m / rem0 g n m := by unfold flo; simp
  have e2 : rem0 false m (rem0 g n m) = m % rem0 g n m := by
    generalize rem0 g n m = R
    simp [rem0]
  rw [e1, e2]
  rfl
/-- The text of a term. -/
def tmB (x : Bool × Nat) : ByteArray := ⟨((if x.1 then [45] else []) ++ Lib.decDigits x.2).toArray⟩
theorem tmB_data (x : Bool × Nat) : (tmB x).data.toList = (if x.1 then [45] else []) ++ Lib.decDigits x.2 := by simp [tmB]
theorem decTx (n : Nat) : Tx (⟨(Lib.decDigits n).toArray⟩ : ByteArray) n := by
  have h := dec_canon n
  exact ⟨by simpa using h.1, by simpa using h.2⟩
theorem tmB_tx {s : ByteArray} {n : Nat} (h : Tx s n) : s = tmB (false, n) := by
  rw [h.inj (decTx n)]
  simp [tmB]
theorem tmB_rad {g : Bool} {n : Nat} {s t : ByteArray} (h : InRad 10 n t) (hs : s.data.toList = (if g then [45] else []) ++ t.data.toList) : s = tmB (g, n) := by
  have d := decTx n
  have ht := h.inj (InRad.dec d.1 d.2)
  apply Go.WideShapes.bytes_inj
  rw [hs, tmB_data, ht]
theorem tmB_whole {g : Bool} {n : Nat} {s : ByteArray} (h : WholeR 10 g n s) : s = tmB (g, n) := by
  obtain ⟨t, h1, h2⟩ := h
  exact tmB_rad h1 h2
theorem tmB_num {g : Bool} {n : Nat} {s : ByteArray} (h : NumR 10 g n 1 s) : s = tmB (g, n) := by
  obtain ⟨t, u, h1, _, h3⟩ := h
  refine tmB_rad h1 ?_
  rw [h3]; simp
/-- A row of terms in memory of its own. -/
def TmS (w : World) (B : Nat) (v : Value) (l : List (Bool × Nat)) : Prop := OwnR w B v 9 stringL 1 (l.map tmB)
theorem TmS.nil (w : World) (B : Nat) : TmS w B (.slice none 0 0) [] := World.ownsRow_nil _ _ _ _
theorem TmS.below {w w' : World} {B C : Nat} {v : Value} {l : List (Bool × Nat)} (h : TmS w B v l) (hB : Below C w w') (hC : w.heap.size ≤ C) : TmS w' B v l := OwnR.below h hB hC
theorem TmS.own {w : World} {B : Nat} {v : Value} {l : List (Bool × Nat)} (h : TmS w B v l) : w.ownsRow B 9 1 v (l.map tmB).length ((l.map tmB).flatMap stringL) := h
theorem TmS.ge {w : World} {B k : Nat} {v : Value} {l : List (Bool × Nat)} (h : TmS w B v l) (hk : v.ownBlock = some k) : B ≤ k := by
  rcases h.2 with ⟨h1, _⟩ | ⟨g, cap, cur, h1, h2, _⟩
  · rw [h1] at hk; simp [Value.ownBlock] at hk
  · rw [h1] at hk; simp [Value.ownBlock] at hk; omega
theorem TmS.put {w' : World} {B n : Nat} {v : Value} {l : List (Bool × Nat)} {xs : List Value} {s : ByteArray} (h : w'.ownsRow B 9 1 v n xs) (hn : n = (l.map tmB).length + 1) (q : Bool × Nat) (hs : s = tmB q) (hx : xs = (l.map tmB).flatMap stringL ++ [.string s]) : TmS w' B v (l ++ [q]) := by
  subst hn hx hs
  unfold TmS OwnR
  rw [List.map_append, List.length_append, List.flatMap_append]
  exact h
/-- May s be told by terms? -/
def tmOk (s : ByteArray) : Bool := okN s.data.toList && decide ((trm (negN s.data.toList) (topN s.data.toList) (botN s.data.toList)).length ≤ 300)
/-- What TermsOf answers: the row in new memory. -/
def TmAns (s : ByteArray) (w : World) (e : Ending) (w' : World) : Prop :=
  (tmOk s = true ∧ ∃ v, e = .returned (.tuple #[v, .bool true]) ∧ TmS w' w.heap.size v (trm (negN s.data.toList) (topN s.data.toList) (botN s.data.toList))) ∨ (tmOk s = false ∧ e = .returned (.tuple #[.slice none 0 0, .bool false]))
end Go.Proofs.YthbnacikomimfaaDoor
