/-
  Texts of terms (plain).
-/
import Derived.Test.YtgolfbjfopoeeaaDoorTold
import Derived.Test.YtgolfbjfopoeeaaDoorNumAll
namespace Go.Proofs.YtgolfbjfopoeeaaDoor
set_option linter.unusedVariables false

/-- The text of a term. -/
def Lm.txt : Lm → List UInt8
  | .var n => Lib.itoa n
  | .lam t => 92 :: t.txt
  | .app a b => 40 :: (a.txt ++ 32 :: (b.txt ++ [41]))
theorem itoa_dig {n : Int} (h0 : 0 ≤ n) : canonB (Lib.itoa n) = true ∧ dval (Lib.itoa n) = n.toNat := by
  obtain ⟨k, rfl⟩ := Int.eq_ofNat_of_zero_le h0
  rw [itoa_nat]; simpa using dec_canon k
theorem itoa_le {n : Int} (h0 : 0 ≤ n) (k : Nat) (hk : 1 ≤ k) (h : n.toNat < 10 ^ k) : (Lib.itoa n).length ≤ k := (canon_len_le (itoa_dig h0).1 k hk).2 (by rw [(itoa_dig h0).2]; exact h)
theorem itoa_pos {n : Int} (h0 : 0 ≤ n) : ∃ c m, Lib.itoa n = c :: m ∧ isDig c = true := by
  have h := (itoa_dig h0).1
  cases e : Lib.itoa n with
  | nil => rw [e] at h; simp [canonB] at h
  | cons c m => rw [e] at h; simp only [canonB, List.all_cons, Bool.and_eq_true] at h; exact ⟨c, m, rfl, h.1.1⟩
theorem itoa_all {n : Int} (h0 : 0 ≤ n) : (Lib.itoa n).all isDig = true := by
  have h := (itoa_dig h0).1
  unfold canonB at h
  simp only [Bool.and_eq_true] at h
  exact h.1
theorem Lm.txt_len : ∀ {t : Lm}, t.ok = true → t.txt.length ≤ 3 * t.sz
  | .var n, h => by
    simp only [Lm.ok, Bool.and_eq_true, decide_eq_true_eq] at h
    have := itoa_le (n := n) h.1 2 (by omega) (by omega)
    simp only [Lm.txt, Lm.sz]; omega
  | .lam t, h => by have := Lm.txt_len (t := t) h; simp only [Lm.txt, Lm.sz, List.length_cons]; omega
  | .app a b, h => by
    simp only [Lm.ok, Bool.and_eq_true] at h
    have h1 := Lm.txt_len h.1
    have h2 := Lm.txt_len h.2
    simp only [Lm.txt, Lm.sz, List.length_cons, List.length_append, List.length_nil]; omega

end Go.Proofs.YtgolfbjfopoeeaaDoor
