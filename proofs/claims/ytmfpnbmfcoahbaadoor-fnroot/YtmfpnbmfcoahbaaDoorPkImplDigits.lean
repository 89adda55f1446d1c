/-
  The texts ImplDigits, NumText, TellNum, one behind the other.
-/
import Derived.Test.YtmfpnbmfcoahbaaDoorRadixText
import Derived.Test.YtmfpnbmfcoahbaaDoorPkRead
import Derived.Test.YtmfpnbmfcoahbaaDoorPkDivideA
import Derived.Test.YtmfpnbmfcoahbaaDoorText
import Derived.Test.YtmfpnbmfcoahbaaDoorPkHeld
import Derived.Lib.ConvBytes
import Derived.Test.YtmfpnbmfcoahbaaDoorPkFraction

/-
  What digits of impl's nats answers.
-/
namespace Go.Proofs.YtmfpnbmfcoahbaaDoor
open Go.RowKit
set_option linter.unusedVariables false

theorem digs_put {b n j A : Nat} {l : List UInt8} (hl : l.length = 2400) (hA : A + 1 + j = 2400) (h : l.drop (A + 1) = (digs b n j).reverse) : (l.set A (hx (n / b ^ j % b))).drop A = (digs b n (j + 1)).reverse := by
  rw [digs_snoc, List.reverse_append, List.reverse_singleton, List.singleton_append, ← h, List.drop_eq_getElem_cons (by simp; omega)]
  congr 1
  · simp
  · rw [List.drop_set_of_lt (by omega)]

theorem size_u8 (w : World) : (sizeOf 5).run Tryd.prog w = .ok 1 w := by
  simp [sizeOf]
  rfl

theorem add_off (b j : Nat) : (⟨b, 0, none⟩ : Addr).add j = ⟨b, j, none⟩ := by unfold Addr.add; split <;> simp_all
theorem add_at (b i j : Nat) : (⟨b, i, none⟩ : Addr).add j = ⟨b, i + j, none⟩ := by unfold Addr.add; split <;> simp_all

end Go.Proofs.YtmfpnbmfcoahbaaDoor

/-
  What isOne and the texts of whole numbers and fractions of impl answer.
-/
namespace Go.Proofs.YtmfpnbmfcoahbaaDoor
open Go.RowKit
set_option linter.unusedVariables false

theorem InRad.size_le {b n : Nat} {s : ByteArray} (h : InRad b n s) (hb : 2 ≤ b) (hn : n < 10 ^ 600) : s.size ≤ 2400 := by
  obtain ⟨j, hj, e⟩ := h
  have hs : s.size = j := by
    have h1 : s.data.toList.length = s.size := by simp
    rw [← h1, e, List.length_reverse, digs_len]
  rw [hs]
  by_cases h1 : j = 1
  · omega
  · have h2 := hj.2.2 (j - 1) (by have := hj.1; omega) (by have := hj.1; omega)
    have := room_gen (T := 600) (K := 0) hb hn (pow_le_of_div (by omega) h2)
    omega

/-- s is the text of the whole number in the radix b. -/
def WholeR (b : Nat) (g : Bool) (n : Nat) (s : ByteArray) : Prop := ∃ t : ByteArray, InRad b n t ∧ s.data.toList = (if g then [45] else []) ++ t.data.toList
/-- s is the text of the fraction in the radix b. -/
def NumR (b : Nat) (g : Bool) (n m : Nat) (s : ByteArray) : Prop := ∃ t u : ByteArray, InRad b n t ∧ InRad b m u ∧ s.data.toList = (if g then [45] else []) ++ t.data.toList ++ (if m = 1 then [] else 47 :: u.data.toList)
theorem NumR.inj {b : Nat} {g : Bool} {n m : Nat} {s s' : ByteArray} (h : NumR b g n m s) (h' : NumR b g n m s') : s = s' := by
  obtain ⟨t, u, h1, h2, h3⟩ := h
  obtain ⟨t', u', h1', h2', h3'⟩ := h'
  obtain rfl := h1.inj h1'
  obtain rfl := h2.inj h2'
  exact Go.WideShapes.bytes_inj (by rw [h3, h3'])

end Go.Proofs.YtmfpnbmfcoahbaaDoor

/-
  What tellNum of impl answers.
-/
namespace Go.Proofs.YtmfpnbmfcoahbaaDoor
open Go.RowKit
set_option linter.unusedVariables false

/-- It tells the fraction, where top and bottom are not too long. -/
def TellsN (g : Bool) (n m : Nat) (e : Ending) : Prop := ∃ s : ByteArray, e = .returned (.tuple #[.string s, .bool (decide (n < 10 ^ 600) && decide (m < 10 ^ 600))]) ∧ ((decide (n < 10 ^ 600) && decide (m < 10 ^ 600)) = true → NumR 10 g n m s) ∧ ((decide (n < 10 ^ 600) && decide (m < 10 ^ 600)) = false → s = ⟨#[]⟩)
theorem TellsN.same {g : Bool} {n m : Nat} {e e' : Ending} (h : TellsN g n m e) (h' : TellsN g n m e') : ∃ (s : ByteArray) (o : Bool), e = .returned (.tuple #[.string s, .bool o]) ∧ e' = .returned (.tuple #[.string s, .bool o]) := by
  obtain ⟨s, rfl, h1, h2⟩ := h
  obtain ⟨s', rfl, h1', h2'⟩ := h'
  have : s = s' := by
    cases hb : (decide (n < 10 ^ 600) && decide (m < 10 ^ 600)) with
    | true => exact (h1 hb).inj (h1' hb)
    | false => rw [h2 hb, h2' hb]
  subst this
  exact ⟨s, _, rfl, rfl⟩
theorem TellsN.yes {g : Bool} {n m : Nat} {s : ByteArray} (hn : n < 10 ^ 600) (hm : m < 10 ^ 600) (h : NumR 10 g n m s) : TellsN g n m (.returned (.tuple #[.string s, .bool true])) := by
  refine ⟨s, ?_, fun _ => h, fun hb => ?_⟩
  · rw [decide_eq_true hn, decide_eq_true hm]; rfl
  · rw [decide_eq_true hn, decide_eq_true hm] at hb; cases hb
theorem TellsN.no {g : Bool} {n m : Nat} (h : ¬ n < 10 ^ 600 ∨ ¬ m < 10 ^ 600) : TellsN g n m (.returned (.tuple #[.string ⟨#[]⟩, .bool false])) := by
  have hb : (decide (n < 10 ^ 600) && decide (m < 10 ^ 600)) = false := by
    rcases h with h | h
    · rw [decide_eq_false h]; rfl
    · rw [decide_eq_false h, Bool.and_false]
  refine ⟨⟨#[]⟩, by rw [hb], ?_, fun _ => rfl⟩
  intro h; rw [hb] at h; cases h

end Go.Proofs.YtmfpnbmfcoahbaaDoor
