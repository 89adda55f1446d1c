/-
  What the answers on natural numbers say of each other: sums, products, quotients, texts in a radix.
-/
import Derived.Test.YtnlegofckpbncaaDoorPkImplMake
import Derived.Test.YtnlegofckpbncaaDoorPkImplMul
import Derived.Test.YtnlegofckpbncaaDoorPkSpecMul
import Derived.Test.YtnlegofckpbncaaDoorImplOfRadix
import Derived.Test.YtnlegofckpbncaaDoorImplAdd
namespace Go.Proofs.YtnlegofckpbncaaDoor
open Go.RowKit
set_option linter.unusedVariables false

theorem good_inj {s a : ByteArray} (hs : goodB s.data.toList = true) (ha : goodB a.data.toList = true) (h : dval s.data.toList = dval a.data.toList) : s = a :=
  Go.WideShapes.bytes_inj (canon_inj (good_canon hs) (good_canon ha) h)
theorem good_of {s : ByteArray} {n : Nat} (hc : canonB s.data.toList = true) (hv : dval s.data.toList = n) (hn : n < 10 ^ 600) : goodB s.data.toList = true := by
  unfold goodB
  rw [hc, decide_eq_true ((canon_len_le hc 600 (by omega)).2 (by rw [hv]; exact hn))]; rfl
/-- What is told is a good text of the number. -/
theorem ans_true {g : Bool} {n : Nat} {s : ByteArray} (h : Ans g n (.returned (.tuple #[.string s, .bool true]))) : g = true ∧ goodB s.data.toList = true ∧ dval s.data.toList = n := by
  rcases h with ⟨g1, t, e, h1, _⟩ | ⟨_, h⟩
  · simp only [Ending.returned.injEq, Value.tuple.injEq, Array.mk.injEq, List.cons.injEq, Value.string.injEq, Value.bool.injEq, and_true] at e
    obtain ⟨rfl, e⟩ := e
    have hn := of_decide_eq_true e.symm
    exact ⟨g1, good_of (h1 hn).1 (h1 hn).2 hn, (h1 hn).2⟩
  · unfold Mute at h
    simp at h
/-- A number that has a good text is told. -/
theorem ans_yes {g : Bool} {n : Nat} {e : Ending} (h : Ans g n e) (hg : g = true) {a : ByteArray} (ha : goodB a.data.toList = true) (hv : dval a.data.toList = n) : e = .returned (.tuple #[.string a, .bool true]) := by
  rcases h with ⟨_, t, rfl, h1, _⟩ | ⟨g1, _⟩
  · have hn : n < 10 ^ 600 := by rw [← hv]; exact good_lt ha
    obtain ⟨c, d⟩ := h1 hn
    obtain rfl := good_inj (good_of c d hn) ha (by rw [d, hv])
    rw [decide_eq_true hn]
  · rw [hg] at g1; cases g1
theorem ans2_yes {g : Bool} {n m : Nat} {e : Ending} (h : Ans2 g n m e) (hg : g = true) (hn : n < 10 ^ 600) (hm : m < 10 ^ 600) : ∃ s t : ByteArray, e = .returned (.tuple #[.string s, .string t, .bool true]) ∧ (goodB s.data.toList = true ∧ dval s.data.toList = n) ∧ (goodB t.data.toList = true ∧ dval t.data.toList = m) := by
  rcases h with ⟨_, s, t, rfl, c1, v1, c2, v2⟩ | ⟨g1, _⟩
  · exact ⟨s, t, rfl, ⟨good_of c1 v1 hn, v1⟩, good_of c2 v2 hm, v2⟩
  · rw [hg] at g1; cases g1
theorem good_zero : goodB (⟨#[48]⟩ : ByteArray).data.toList = true ∧ dval (⟨#[48]⟩ : ByteArray).data.toList = 0 := by decide
theorem good_ne_zero {b : ByteArray} (hb : goodB b.data.toList = true) (h : b ≠ ⟨#[48]⟩) : dval b.data.toList ≠ 0 := fun e => h (good_inj hb good_zero.1 (by rw [e, good_zero.2]))
theorem cmp_ge {a b : ByteArray} (ha : goodB a.data.toList = true) (hb : goodB b.data.toList = true) (h : dval b.data.toList ≤ dval a.data.toList) : ∃ c : Int, cmpAns a b = .returned (.tuple #[.int .i64 c, .bool true]) ∧ ¬ c < 0 := by
  refine ⟨_, by unfold cmpAns; rw [ha, hb]; rfl, ?_⟩
  unfold cmpI
  rw [if_neg (by omega)]
  split <;> omega
theorem cmp_less {a b : ByteArray} (ha : goodB a.data.toList = true) (hb : goodB b.data.toList = true) (h : dval a.data.toList < dval b.data.toList) : cmpAns a b = .returned (.tuple #[.int .i64 (-1), .bool true]) := by
  unfold cmpAns
  rw [ha, hb, cmpI_lt (by omega)]; rfl
theorem dg_hx : ∀ d, d < 16 → dg (hx d) = d := by decide
theorem rval_digs (b n : Nat) (hb : 2 ≤ b) (hb2 : b ≤ 16) : ∀ j, rval b (digs b n j).reverse = n % b ^ j ∧ rdigs b (digs b n j).reverse = true := by
  intro j
  induction j generalizing n with
  | zero => exact ⟨by simp [digs, rval, Nat.mod_one], by simp [digs, rdigs]⟩
  | succ j ih =>
    have e : digs b n (j + 1) = hx (n % b) :: digs b (n / b) j := by
      unfold digs
      rw [List.range_succ_eq_map, List.map_cons, List.map_map]
      congr 1
      · simp
      · apply List.map_congr_left
        intro i _
        simp only [Function.comp, Nat.succ_eq_add_one, Nat.pow_succ, Nat.div_div_eq_div_mul]
        rw [Nat.mul_comm b]
    have hd : n % b < 16 := Nat.lt_of_lt_of_le (Nat.mod_lt _ (by omega)) hb2
    obtain ⟨i1, i2⟩ := ih (n / b)
    rw [e, List.reverse_cons]
    refine ⟨?_, ?_⟩
    · rw [rval_snoc, i1, dg_hx _ hd, Nat.pow_succ, Nat.mul_comm (b ^ j) b, Nat.mod_mul]; omega
    · unfold rdigs at i2 ⊢
      rw [List.all_append, i2]
      simp only [List.all_cons, List.all_nil, dg_hx _ hd]
      simp [Nat.mod_lt n (show 0 < b by omega)]
/-- What is told in a radix comes back. -/
theorem rad_back {b n : Nat} {t : ByteArray} (hb : 2 ≤ b) (hb2 : b ≤ 16) (h : InRad b n t) : rval b t.data.toList = n ∧ rdigs b t.data.toList = true ∧ 1 ≤ t.size := by
  obtain ⟨j, hj, e⟩ := h
  obtain ⟨h1, h2⟩ := rval_digs b n hb hb2 j
  have hl : t.size = j := by
    have : t.data.toList.length = j := by rw [e, List.length_reverse, digs_len]
    simpa using this
  rw [e]
  refine ⟨?_, h2, by rw [hl]; exact hj.1⟩
  rw [h1]
  exact Nat.mod_eq_of_lt (Nat.lt_of_div_eq_zero (Nat.pow_pos (by omega)) hj.2.1)
end Go.Proofs.YtnlegofckpbncaaDoor
