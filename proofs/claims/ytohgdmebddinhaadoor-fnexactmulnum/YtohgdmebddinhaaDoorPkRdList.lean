/-
  The texts RdList, IrFact, IrMem, IrAdd, ImplDataText, IrStr, RdAll, one behind the other.
-/
import Derived.Test.YtohgdmebddinhaaDoorPkRdStr
import Derived.Test.YtohgdmebddinhaaDoorPkAppDatum
import Derived.Test.YtohgdmebddinhaaDoorShelfCut
import Derived.Test.YtohgdmebddinhaaDoorPkSeats

/-
  The model's reader: a list.
-/
namespace Go.Proofs.YtohgdmebddinhaaDoor
open Go.RowKit
set_option linter.unusedVariables false

/-- Nodes ahead of a list's others. -/
def ahead (ps : List Dm) : Option (Nat × Bool × List Dm) → Option (Nat × Bool × List Dm)
  | none => none
  | some (a', d, qs) => some (a', d, ps ++ qs)
theorem ahead_nil (r : Option (Nat × Bool × List Dm)) : ahead [] r = r := by
  match r with
  | none => rfl
  | some (a', d, qs) => rfl
theorem ahead_app (ps qs : List Dm) (r : Option (Nat × Bool × List Dm)) : ahead (ps ++ qs) r = ahead ps (ahead qs r) := by
  match r with
  | none => rfl
  | some (a', d, rs) => simp [ahead]
theorem listF_end {s : ByteArray} {f a k : Nat} {deep : Int} {n : Nat} (h : skipP s a = s.size) : listF s f a k deep n = none := by
  cases f with
  | zero => rw [listF]
  | succ f => rw [listF, if_pos h]
theorem listF_close {s : ByteArray} {f a k : Nat} {deep : Int} {n : Nat} (h0 : skipP s a ≠ s.size) (h : byteAt s (skipP s a) = 41) : listF s (f + 1) a k deep n = some (skipP s a + 1, false, []) := by
  rw [listF, if_neg h0, if_pos h]
theorem listF_dot {s : ByteArray} {f a k : Nat} {deep : Int} {n : Nat} (h0 : skipP s a ≠ s.size) (h : byteAt s (skipP s a) ≠ 41) (hd : isDot s (skipP s a) = true) : listF s (f + 1) a k deep n = dotR s f (skipP s a) k deep n := by
  rw [listF, if_neg h0, if_neg h, if_pos hd]
  rfl
theorem listF_one {s : ByteArray} {f a k : Nat} {deep : Int} {n : Nat} (h0 : skipP s a ≠ s.size) (h : byteAt s (skipP s a) ≠ 41) (hd : isDot s (skipP s a) = false) : listF s (f + 1) a k deep n = match oneF s f (skipP s a) k deep n with
    | none => none
    | some (a', ps) => ahead ps (listF s f a' k deep (n + ps.length)) := by
  rw [listF, if_neg h0, if_neg h, if_neg (by rw [hd]; decide)]
  split
  · rename_i e; rw [e]
  · rename_i a' ps e
    rw [e]
    simp only []
    cases listF s f a' k deep (n + ps.length) <;> rfl

end Go.Proofs.YtohgdmebddinhaaDoor

/-
  The reader: plain facts (what is passed over twice; a word that is a dot).
-/
namespace Go.Proofs.YtohgdmebddinhaaDoor
open Go.RowKit
set_option linter.unusedVariables false

theorem skipF_stop {s : ByteArray} : ∀ (f a : Nat) (c : Bool), a + f = s.size → skipF s f a c = s.size ∨ (skipF s f a c < s.size ∧ byteAt s (skipF s f a c) ≠ 10 ∧ byteAt s (skipF s f a c) ≠ 59 ∧ ¬ (byteAt s (skipF s f a c) = 32 ∨ byteAt s (skipF s f a c) = 9 ∨ byteAt s (skipF s f a c) = 13))
  | 0, a, c, h => .inl (by rw [skipF]; omega)
  | f + 1, a, c, h => by
    rw [skipF]
    split
    · exact skipF_stop f (a + 1) false (by omega)
    · split
      · exact skipF_stop f (a + 1) true (by omega)
      · split
        · exact skipF_stop f (a + 1) true (by omega)
        · split
          · exact skipF_stop f (a + 1) false (by omega)
          · next h1 h2 h3 h4 => exact .inr ⟨by omega, h1, h3, h4⟩
theorem skip_skip {s : ByteArray} {a : Nat} (ha : a ≤ s.size) : skipP s (skipP s a) = skipP s a := by
  have hst := skipF_stop (s := s) (s.size - a) a false (by omega)
  rw [show skipF s (s.size - a) a false = skipP s a from rfl] at hst
  rcases hst with h | ⟨h0, h1, h2, h3⟩
  · have h' : skipP s a = s.size := h
    rw [h']; unfold skipP; rw [Nat.sub_self, skipF]
  · have h0' : skipP s a < s.size := h0
    show skipF s (s.size - skipP s a) (skipP s a) false = skipP s a
    rw [show s.size - skipP s a = (s.size - (skipP s a + 1)) + 1 by omega, skipF, if_neg h1, if_neg (by decide), if_neg h2, if_neg h3]
theorem oneF_skip {s : ByteArray} {a : Nat} (ha : a ≤ s.size) (f : Nat) (up deep : Int) (n : Nat) : oneF s f (skipP s a) up deep n = oneF s f a up deep n := by
  cases f with
  | zero => rw [oneF, oneF]
  | succ f => rw [oneF, oneF, skip_skip ha]
theorem ext_len (s : ByteArray) (p q : Nat) (hq : q ≤ s.size) : (s.extract p q).toList.length = q - p := by
  rw [ByteArray.toList_eq]
  have := ByteArray.size_extract (a := s) (b := p) (e := q)
  simp only [Array.length_toList]
  have e : (s.extract p q).data.size = (s.extract p q).size := rfl
  rw [e, this]
  omega
theorem ext_hd (s : ByteArray) (p q : Nat) (hp : p < q) (hq : q ≤ s.size) : (s.extract p q).toList[0]? = some (byteAt s p) := by
  rw [ByteArray.toList_eq, ByteArray.data_extract, byteAt_eq (by omega)]
  rw [Array.getElem?_toList, Array.getElem?_extract]
  have h1 : p < s.data.size := by have : s.size = s.data.size := rfl; omega
  simp
  exact ⟨by omega, by rw [Array.getElem?_eq_getElem h1]; rfl⟩
theorem word_dot {s : ByteArray} {p : Nat} (hp : p < s.size) : ((s.extract p (wordP s p)).toList == [46]) = isDot s p := by
  have hl := wordP_le s p (by omega)
  have e1 := ext_len s p (wordP s p) hl.2
  by_cases h46 : byteAt s p = 46
  · have hst : wordP s p = wordP s (p + 1) := by rw [word_step hp, h46]; rfl
    by_cases he : p + 1 = s.size
    · have hw : wordP s p = p + 1 := by rw [hst, word_end he]
      have h0 := ext_hd s p (wordP s p) (by omega) hl.2
      have hd : isDot s p = true := by unfold isDot; rw [h46, decide_eq_true he]; rfl
      rw [hd, beq_iff_eq]
      rw [h46] at h0
      generalize (s.extract p (wordP s p)).toList = l at *
      match l, e1, h0 with
      | [x], _, h0 => simp at h0; rw [h0]
      | [], e1, _ => simp at e1; omega
      | x :: y :: l, e1, _ => simp at e1; omega
    · cases hs : stopB (byteAt s (p + 1)) with
      | true =>
        have hw : wordP s p = p + 1 := by rw [hst, word_step (by omega), hs]; rfl
        have h0 := ext_hd s p (wordP s p) (by omega) hl.2
        have hd : isDot s p = true := by unfold isDot; rw [h46, hs]; simp
        rw [hd, beq_iff_eq]
        rw [h46] at h0
        generalize (s.extract p (wordP s p)).toList = l at *
        match l, e1, h0 with
        | [x], _, h0 => simp at h0; rw [h0]
        | [], e1, _ => simp at e1; omega
        | x :: y :: l, e1, _ => simp at e1; omega
      | false =>
        have hw : wordP s p = wordP s (p + 2) := by rw [hst, word_step (by omega), hs]; rfl
        have hl2 := wordP_le s (p + 2) (by omega)
        have hd : isDot s p = false := by unfold isDot; rw [hs, decide_eq_false he]; simp
        rw [hd, beq_eq_false_iff_ne]
        intro e
        rw [e] at e1
        simp at e1
        omega
  · have hd : isDot s p = false := by unfold isDot; rw [beq_eq_false_iff_ne.2 h46]; rfl
    rw [hd, beq_eq_false_iff_ne]
    intro e
    by_cases hw : p < wordP s p
    · have h0 := ext_hd s p (wordP s p) hw hl.2
      rw [e] at h0
      simp at h0
      exact h46 h0.symm
    · rw [e] at e1
      simp at e1
      omega
/-- What an open bracket leaves. -/
noncomputable def openR (s : ByteArray) (f p : Nat) (up deep : Int) (n : Nat) : Option (Nat × List Dm) :=
  if 300 ≤ n ∨ 25 ≤ deep then none
  else match listF s f (p + 1) n (deep + 1) (n + 1) with
    | none => none
    | some (a', d, ps) => some (a', ⟨if d then 6 else 5, ⟨#[]⟩, up⟩ :: ps)
theorem openR_full {s : ByteArray} {f p n : Nat} {up deep : Int} (h : 300 ≤ n ∨ 25 ≤ deep) : openR s f p up deep n = none := by unfold openR; rw [if_pos h]
theorem openR_none {s : ByteArray} {f p n : Nat} {up deep : Int} (h : listF s f (p + 1) n (deep + 1) (n + 1) = none) : openR s f p up deep n = none := by unfold openR; rw [h]; split <;> rfl
theorem openR_some {s : ByteArray} {f p n a' : Nat} {up deep : Int} {d : Bool} {ps : List Dm} (h0 : ¬ (300 ≤ n ∨ 25 ≤ deep)) (h : listF s f (p + 1) n (deep + 1) (n + 1) = some (a', d, ps)) : openR s f p up deep n = some (a', ⟨if d then 6 else 5, ⟨#[]⟩, up⟩ :: ps) := by unfold openR; rw [if_neg h0, h]
/-- What a quote sign leaves. -/
noncomputable def quoteR (s : ByteArray) (f p : Nat) (up deep : Int) (n : Nat) : Option (Nat × List Dm) :=
  if 299 ≤ n ∨ 25 ≤ deep then none
  else match oneF s f (p + 1) n (deep + 1) (n + 2) with
    | none => none
    | some (a', ps) => some (a', ⟨5, ⟨#[]⟩, up⟩ :: ⟨2, ⟨#[113, 117, 111, 116, 101]⟩, n⟩ :: ps)
theorem quoteR_full {s : ByteArray} {f p n : Nat} {up deep : Int} (h : 299 ≤ n ∨ 25 ≤ deep) : quoteR s f p up deep n = none := by unfold quoteR; rw [if_pos h]
theorem quoteR_none {s : ByteArray} {f p n : Nat} {up deep : Int} (h : oneF s f (p + 1) n (deep + 1) (n + 2) = none) : quoteR s f p up deep n = none := by unfold quoteR; rw [h]; split <;> rfl
theorem quoteR_some {s : ByteArray} {f p n a' : Nat} {up deep : Int} {ps : List Dm} (h0 : ¬ (299 ≤ n ∨ 25 ≤ deep)) (h : oneF s f (p + 1) n (deep + 1) (n + 2) = some (a', ps)) : quoteR s f p up deep n = some (a', ⟨5, ⟨#[]⟩, up⟩ :: ⟨2, ⟨#[113, 117, 111, 116, 101]⟩, n⟩ :: ps) := by unfold quoteR; rw [if_neg h0, h]
end Go.Proofs.YtohgdmebddinhaaDoor

/-
  The program's reader in memory; it gives up, blanks passed over, the byte where it is, a node added.
-/
namespace Go.Proofs.YtohgdmebddinhaaDoor
open Go.RowKit
set_option linter.unusedVariables false

end Go.Proofs.YtohgdmebddinhaaDoor

/-
  The program's reader: the next byte, the word where it is, a node added.
-/
namespace Go.Proofs.YtohgdmebddinhaaDoor
open Go.RowKit
set_option linter.unusedVariables false

def endsB : List UInt8 := [32, 9, 10, 13, 40, 41, 34, 59, 39]
theorem ends_no {c : UInt8} (h : stopB c = false) : Lib.indexByte endsB c = -1 := by
  unfold stopB at h
  simp only [Bool.or_eq_false_iff, beq_eq_false_iff_ne] at h
  obtain ⟨⟨⟨⟨⟨⟨⟨⟨h1, h2⟩, h3⟩, h4⟩, h5⟩, h6⟩, h7⟩, h8⟩, h9⟩ := h
  simp [endsB, Lib.indexByte, Ne.symm h1, Ne.symm h2, Ne.symm h3, Ne.symm h4, Ne.symm h5, Ne.symm h6, Ne.symm h7, Ne.symm h8, Ne.symm h9]
theorem ends_yes {c : UInt8} (h : stopB c = true) : 0 ≤ Lib.indexByte endsB c := by
  unfold stopB at h
  simp only [Bool.or_eq_true, beq_iff_eq] at h
  rcases h with (((((((h | h) | h) | h) | h) | h) | h) | h) | h <;> subst h <;> decide

end Go.Proofs.YtohgdmebddinhaaDoor

/-
  What impl.DataText answers.
-/
namespace Go.Proofs.YtohgdmebddinhaaDoor
open Go.RowKit
set_option linter.unusedVariables false

def txtAll (l : List Dm) : List UInt8 := jnK l (TX l) l.length (-1)
/-- What DataText should answer. -/
def DtAns (l : List Dm) (e : Ending) : Prop :=
  ((goodAll l && decide ((txtAll l).length ≤ 1500)) = true ∧ ∃ s : ByteArray, e = .returned (.tuple #[.string s, .bool true]) ∧ s.data.toList = txtAll l) ∨ ((goodAll l && decide ((txtAll l).length ≤ 1500)) = false ∧ e = .returned (.tuple #[.string ⟨#[]⟩, .bool false]))
theorem DtAns.same {l : List Dm} {e e' : Ending} (h : DtAns l e) (h' : DtAns l e') : ∃ (s : ByteArray) (o : Bool), e = .returned (.tuple #[.string s, .bool o]) ∧ e' = .returned (.tuple #[.string s, .bool o]) := by
  rcases h with ⟨g1, s, rfl, h⟩ | ⟨g1, rfl⟩ <;> rcases h' with ⟨g2, t, rfl, h'⟩ | ⟨g2, rfl⟩
  · have : s = t := by
      have h3 : s.data = t.data := Array.ext' (by rw [h, h'])
      cases s; cases t; simp at h3; rw [h3]
    subst this
    exact ⟨s, true, rfl, rfl⟩
  · rw [g1] at g2; cases g2
  · rw [g1] at g2; cases g2
  · exact ⟨_, _, rfl, rfl⟩

theorem fine_of {l : List Dm} (hg : goodAll l = true) (hs : ∀ k, k < l.length → (dt l k).size ≤ 1048576) : Fine l := by
  unfold goodAll at hg
  rw [Bool.and_eq_true] at hg
  have hn := of_decide_eq_true hg.1
  have hall : ∀ k, k < l.length → nodeOk l k = true := fun k hk => List.all_eq_true.1 hg.2 k (List.mem_range.2 hk)
  have h1 : ∀ k, k < l.length → (upOk l k = true ∧ txtOk (dk l k) (dt l k).data.toList = true ∧ deepOk l k = true) ∧ dotOk l k = true := fun k hk => by
    have := hall k hk
    unfold nodeOk at this
    simp only [Bool.and_eq_true] at this
    exact this
  exact ⟨hn, fun k hk => (h1 k hk).1.1, fun k hk => (h1 k hk).2, fun k hk => (h1 k hk).1.2.1, hs⟩

theorem conv_nil (w : World) : (convert 85 9 (.slice none 0 0)).run Tryd.prog w = .ok (.string ⟨#[]⟩) w := by
  simp [convert, run_underlying Tryd.underlying85, run_underlying Tryd.underlying9, run_underlying Tryd.underlying5, Conv.bytesToString]
  rfl
theorem own_conv' {w : World} {B n : Nat} {v : Value} {l : List UInt8} (h : w.ownsRow B 5 1 v n (Lib.byteCells l)) (hn : n = l.length) : (convert 85 9 v).run Tryd.prog w = .ok (.string ⟨l.toArray⟩) w := by
  by_cases h0 : n = 0
  · rcases h.2 with ⟨rfl, _⟩ | ⟨g, cap, cur, rfl, hg, hh, hc, _, hsz, ht⟩
    · have hl : l = [] := List.length_eq_zero_iff.1 (by omega)
      subst hl
      exact conv_nil w
    · have hl : l = [] := List.length_eq_zero_iff.1 (by omega)
      subst hl
      subst hn
      exact run_convert_bytes_back (P := Tryd.prog) w 85 9 5 ⟨g, 0, none⟩ cap [] Tryd.underlying85 Tryd.underlying5 Tryd.underlying9 (fun j hj => by simp at hj)
  · exact own_conv h hn h0

end Go.Proofs.YtohgdmebddinhaaDoor

/-
  The program's reader: strings.
-/
namespace Go.Proofs.YtohgdmebddinhaaDoor
open Go.RowKit
set_option linter.unusedVariables false

theorem own_keep {w w' : World} {B z n : Nat} {T : TypeId} {v : Value} {xs : List Value} {r : Option Nat} (h : w.ownsRow B T z v n xs) (hg : w.grownBy w' r) (hne : r = none ∨ r ≠ v.ownBlock) : w'.ownsRow B T z v n xs := by
  refine ⟨h.1, ?_⟩
  rcases h.2 with h1 | ⟨g, cap, cur, rfl, h2, h3, h4⟩
  · exact .inl h1
  · refine .inr ⟨g, cap, cur, rfl, h2, ?_, h4⟩
    rw [hg.block g (Array.getElem?_eq_some_iff.1 h3).1 (fun e => by
      rcases hne with rfl | hne
      · cases e
      · exact hne (by rw [← e]; rfl))]
    exact h3
theorem own_apart {w : World} {B1 B2 z1 z2 n1 n2 : Nat} {T1 T2 : TypeId} {v1 v2 : Value} {x1 x2 : List Value} (h1 : w.ownsRow B1 T1 z1 v1 n1 x1) (h2 : w.ownsRow B2 T2 z2 v2 n2 x2) (ht : T1 ≠ T2) : v1.ownBlock = none ∨ v1.ownBlock ≠ v2.ownBlock := by
  rcases h1.2 with ⟨rfl, _⟩ | ⟨g, cap, cur, rfl, _, h3, _⟩
  · exact .inl rfl
  · right
    rcases h2.2 with ⟨rfl, _⟩ | ⟨g2, cap2, cur2, rfl, _, h4, _⟩
    · simp [Value.ownBlock]
    · intro e
      simp [Value.ownBlock] at e
      subst e
      rw [h3] at h4
      injection h4 with h4
      injection h4 with _ h5 _
      exact ht h5
theorem grown_any {w w' w'' : World} {b : Nat} (h : w.grownBy w' (some b)) (h' : w'.grownBy w'' (some b)) : w.grownBy w'' (some b) := grown_trans h h'

theorem esc_leI {s : ByteArray} {k k' : Nat} {y : UInt8} (hk : k < s.size) (h : escP s k = some (k', y)) : k < k' ∧ k' ≤ s.size := by
  unfold escP at h
  split at h
  · split at h
    · cases h
    · split at h
      · injection h with h; injection h with h1 h2; omega
      · split at h
        · injection h with h; injection h with h1 h2; omega
        · cases h
  · injection h with h; injection h with h1 h2; omega

theorem own_formZ {w : World} {B z n : Nat} {T : TypeId} {v : Value} {xs : List Value} (h : w.ownsRow B T z v n xs) : ∃ o cap, v = .slice o n cap := by
  rcases h.2 with ⟨rfl, rfl⟩ | ⟨g, cap, cur, rfl, _⟩
  · exact ⟨none, 0, rfl⟩
  · exact ⟨_, _, rfl⟩
theorem strOk_snoc {t : List UInt8} {c : UInt8} (h : strOk t = true) : strOk (t ++ [c]) = (decide (t.length < 100) && strC c) := by
  unfold strOk at *
  rw [Bool.and_eq_true] at h
  rw [List.all_append, h.2, List.length_append]
  simp [Nat.lt_iff_add_one_le]

end Go.Proofs.YtohgdmebddinhaaDoor

/-
  The model's reader: a datum, for all fuel.
-/
namespace Go.Proofs.YtohgdmebddinhaaDoor
open Go.RowKit
set_option linter.unusedVariables false

end Go.Proofs.YtohgdmebddinhaaDoor
