/-
  What spec.laSqrt and spec.SqrtNat answer.
-/
import Derived.Test.YthbnacikomimfaaDoorLaBase
import Derived.Test.YthbnacikomimfaaDoorPkSpecMul
import Derived.Test.YthbnacikomimfaaDoorNum
namespace Go.Proofs.YthbnacikomimfaaDoor
open Go.RowKit
set_option linter.unusedVariables false

/-- s is the text of n. -/
def Tx (s : ByteArray) (n : Nat) : Prop := canonB s.data.toList = true ∧ dval s.data.toList = n
theorem Tx.size {s : ByteArray} {n k : Nat} (h : Tx s n) (hn : n < 10 ^ k) (hk : 1 ≤ k) : s.size ≤ k := canon_size hk h.1 h.2 hn
theorem Tx.inj {s t : ByteArray} {n : Nat} (h : Tx s n) (g : Tx t n) : s = t := WideShapes.bytes_inj (canon_inj h.1 g.1 (h.2.trans g.2.symm))
theorem Tx.bytes {s : ByteArray} {n : Nat} (h : Tx s n) (l : List UInt8) (hl : canonB l = true) : (s.toList == l) = decide (n = dval l) := by
  by_cases e : n = dval l
  · rw [decide_eq_true e]; exact str_eq (canon_inj h.1 hl (h.2.trans e))
  · rw [decide_eq_false e]; exact str_ne (fun e2 => e (by rw [← h.2, e2]))

theorem ten_mul {x j : Nat} (c k : Nat) (h : x < 10 ^ j) (hc : c ≤ 10 ^ k) : x * c < 10 ^ (j + k) := by
  rw [Nat.pow_add]
  have h1 : x * c ≤ x * 10 ^ k := Nat.mul_le_mul_left _ hc
  have h2 : x * 10 ^ k < 10 ^ j * 10 ^ k := Nat.mul_lt_mul_of_pos_right h (Nat.pow_pos (by decide))
  omega
theorem ten_add {x y j : Nat} (h : x < 10 ^ j) (g : y < 10 ^ j) : x + y < 10 ^ (j + 1) := by rw [Nat.pow_succ]; omega
theorem ten_mono {x j k : Nat} (h : x < 10 ^ j) (hk : j ≤ k) : x < 10 ^ k := Nat.lt_of_lt_of_le h (Nat.pow_le_pow_right (by decide) hk)

theorem addT {a b : ByteArray} {n m : Nat} (w : World) (ha : Tx a n) (hb : Tx b m) (hsa : a.size ≤ 4000) (hsb : b.size ≤ 4000) :
    Calls Tryd.prog 36 #[.string a, .string b] w fun e w' => ∃ s : ByteArray, e = .returned (.string s) ∧ Tx s (n + m) ∧ Below w.heap.size w w' := by
  refine (l1Add_any a b w hsa hsb ha.1 hb.1).mono ?_
  rintro e w' ⟨s, rfl, h1, h2, h3⟩
  exact ⟨s, rfl, ⟨h1, by rw [h2, ha.2, hb.2]⟩, h3⟩
theorem mulT {a b : ByteArray} {n m : Nat} (w : World) (ha : Tx a n) (hb : Tx b m) (hsa : a.size ≤ 600) (hsb : b.size ≤ 600) :
    Calls Tryd.prog 30 #[.string a, .string b] w fun e w' => ∃ s : ByteArray, e = .returned (.string s) ∧ Tx s (n * m) ∧ Below w.heap.size w w' := by
  refine (l1Mul_any a b w hsa hsb ha.1 hb.1).mono ?_
  rintro e w' ⟨s, rfl, h1, h2, h3⟩
  exact ⟨s, rfl, ⟨h1, by rw [h2, ha.2, hb.2]⟩, h3⟩
theorem subT {a b : ByteArray} {n m : Nat} (w : World) (ha : Tx a n) (hb : Tx b m) (hsa : a.size ≤ 4000) (hsb : b.size ≤ 4000) (hle : m ≤ n) :
    Calls Tryd.prog 35 #[.string a, .string b] w fun e w' => ∃ s : ByteArray, e = .returned (.string s) ∧ Tx s (n - m) ∧ Below w.heap.size w w' := by
  refine (l1Sub_any a b w hsa hsb ha.1 hb.1 (by rw [ha.2, hb.2]; exact hle)).mono ?_
  rintro e w' ⟨s, rfl, h1, h2, h3⟩
  exact ⟨s, rfl, ⟨h1, by rw [h2, ha.2, hb.2]⟩, h3⟩
theorem divT {a b : ByteArray} {n m : Nat} (w : World) (ha : Tx a n) (hb : Tx b m) (hsa : a.size ≤ 2000) (hsb : b.size ≤ 2000) (h0 : m ≠ 0) :
    Calls Tryd.prog 31 #[.string a, .string b] w fun e w' => ∃ s t : ByteArray, e = .returned (.tuple #[.string s, .string t]) ∧ Tx s (n / m) ∧ Tx t (n % m) ∧ Below w.heap.size w w' := by
  refine (l1Div_any a b w hsa hsb ha.1 hb.1 (by rw [hb.2]; exact h0)).mono ?_
  rintro e w' ⟨s, t, rfl, h1, h2, h3, h4, h5⟩
  exact ⟨s, t, rfl, ⟨h1, by rw [h2, ha.2, hb.2]⟩, ⟨h3, by rw [h4, ha.2, hb.2]⟩, h5⟩
theorem cmpT {a b : ByteArray} {n m : Nat} (w : World) (ha : Tx a n) (hb : Tx b m) (hsa : a.size ≤ 4000) (hsb : b.size ≤ 4000) :
    Calls Tryd.prog 61 #[.string a, .string b] w fun e w' => e = .returned (.int .i64 (cmpI n m)) ∧ w' = w := by
  refine (l1Compare_any a b w (by unfold maxLen; omega) (by unfold maxLen; omega) ha.1 hb.1).mono ?_
  rintro e w' ⟨rfl, rfl⟩
  exact ⟨by rw [ha.2, hb.2], rfl⟩
theorem numT (d : Nat) (w : World) (hd : d < 10000) :
    Calls Tryd.prog 85 #[.int .i64 (d : Int)] w fun e w' => ∃ s : ByteArray, e = .returned (.string s) ∧ Tx s d ∧ Below w.heap.size w w' := by
  refine (l1Num_any d hd w).mono ?_
  rintro e w' ⟨s, rfl, h1, h2, h3⟩
  exact ⟨s, rfl, ⟨h1, h2⟩, h3⟩
theorem shiftT {a : ByteArray} {n : Nat} (k : Nat) (w : World) (ha : Tx a n) (hsa : a.size ≤ 5000) (hk : k ≤ 5000) :
    Calls Tryd.prog 49 #[.string a, .int .i64 (k : Int)] w fun e w' => ∃ s : ByteArray, e = .returned (.string s) ∧ Tx s (n * 10 ^ k) ∧ Below w.heap.size w w' := by
  refine (laShift_any a k w hsa hk ha.1).mono ?_
  rintro e w' ⟨s, rfl, h1, h2, h3⟩
  exact ⟨s, rfl, ⟨h1, by rw [h2, ha.2]⟩, h3⟩
theorem cutT {a : ByteArray} {n : Nat} (k : Nat) (w : World) (ha : Tx a n) (hsa : a.size ≤ 5000) (h0 : 0 < k) (hk : k ≤ 5000) :
    Calls Tryd.prog 48 #[.string a, .int .i64 (k : Int)] w fun e w' => ∃ s t : ByteArray, e = .returned (.tuple #[.string s, .string t]) ∧ Tx s (n / 10 ^ k) ∧ Tx t (n % 10 ^ k) ∧ Below w.heap.size w w' := by
  refine (laCut_any a k w hsa h0 hk ha.1).mono ?_
  rintro e w' ⟨s, t, rfl, h1, h2, h3, h4, h5⟩
  exact ⟨s, t, rfl, ⟨h1, by rw [h2, ha.2]⟩, ⟨h3, by rw [h4, ha.2]⟩, h5⟩

theorem root_lt {r t p j : Nat} (h : r * r + t = p) (hp : p < 10 ^ (2 * j)) : r < 10 ^ j := by
  rcases Nat.lt_or_ge r (10 ^ j) with h1 | h1
  · exact h1
  · have := Nat.mul_le_mul h1 h1
    rw [← Nat.pow_add, ← Nat.two_mul] at this
    omega
/-- Two digits behind a 1. -/
theorem pair_text {a : ByteArray} (h : a.data.toList.all isDig = true) (i : Nat) (hi : i + 2 ≤ a.size) : ∃ p : Nat, p ≤ 99 ∧ Tx (⟨#[49]⟩ ++ a.extract i (i + 2)) (100 + p) ∧ dval (a.data.toList.take (i + 2)) = 100 * dval (a.data.toList.take i) + p := by
  have hlen : a.data.toList.length = a.size := by simp
  have he : (a.extract i (i + 2)).data.toList = [a.data.toList[i]'(by omega), a.data.toList[i + 1]'(by omega)] := by
    rw [ByteArray.data_extract, Array.toList_extract, List.extract_eq_take_drop, show i + 2 - i = 2 by omega, List.drop_eq_getElem_cons (by omega), List.drop_eq_getElem_cons (by omega)]
    simp
  have h1 : isDig (a.data.toList[i]'(by omega)) = true := List.all_eq_true.1 h _ (List.getElem_mem _)
  have h2 : isDig (a.data.toList[i + 1]'(by omega)) = true := List.all_eq_true.1 h _ (List.getElem_mem _)
  have d1 := dv_lt h1
  have d2 := dv_lt h2
  refine ⟨10 * dv (a.data.toList[i]'(by omega)) + dv (a.data.toList[i + 1]'(by omega)), by omega, ⟨?_, ?_⟩, ?_⟩
  · simp only [ByteArray.data_append, Array.toList_append, he]
    have h49 : isDig 49 = true := by decide
    simp only [List.cons_append, List.nil_append, canonB, List.all_cons, List.all_nil, h1, h2, h49]; rfl
  · simp only [ByteArray.data_append, Array.toList_append, he]
    simp [dval, dv]; omega
  · rw [List.take_succ_eq_append_getElem (by omega), List.take_succ_eq_append_getElem (by omega), dval_snoc, dval_snoc]; omega

/-- A root and what is left. -/
def SqOut (n : Nat) (e : Ending) : Prop := ∃ (s t : ByteArray) (r u : Nat), e = .returned (.tuple #[.string s, .string t]) ∧ Tx s r ∧ Tx t u ∧ r * r + u = n ∧ u ≤ 2 * r
/-- What SqrtNat answers. -/
def SqAns (a : ByteArray) (e : Ending) : Prop :=
  (goodB a.data.toList = true ∧ ∃ (s t : ByteArray) (r u : Nat), e = .returned (.tuple #[.string s, .string t, .bool true]) ∧ Tx s r ∧ Tx t u ∧ r * r + u = dval a.data.toList ∧ u ≤ 2 * r) ∨ (goodB a.data.toList = false ∧ e = .returned (.tuple #[.string ⟨#[]⟩, .string ⟨#[]⟩, .bool false]))
theorem SqAns.same {a : ByteArray} {e e' : Ending} (h : SqAns a e) (g : SqAns a e') : ∃ (s t : ByteArray) (o : Bool), e = .returned (.tuple #[.string s, .string t, .bool o]) ∧ e' = .returned (.tuple #[.string s, .string t, .bool o]) := by
  rcases h with ⟨h0, s, t, r, u, rfl, h1, h2, h3, h4⟩ | ⟨h0, rfl⟩
  · rcases g with ⟨g0, s', t', r', u', rfl, g1, g2, g3, g4⟩ | ⟨g0, rfl⟩
    · obtain ⟨e1, e2⟩ := root_two h3 h4 g3 g4
      subst e1 e2
      obtain rfl := h1.inj g1
      obtain rfl := h2.inj g2
      exact ⟨_, _, _, rfl, rfl⟩
    · rw [h0] at g0; cases g0
  · rcases g with ⟨g0, _⟩ | ⟨g0, rfl⟩
    · rw [h0] at g0; cases g0
    · exact ⟨_, _, _, rfl, rfl⟩

end Go.Proofs.YthbnacikomimfaaDoor
