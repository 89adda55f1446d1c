/-
  What ChineseNat answers: plain facts for both sides.
-/
import Derived.Test.YthbnacikomimfaaDoorChList
import Derived.Test.YthbnacikomimfaaDoorSpecPow
namespace Go.Proofs.YthbnacikomimfaaDoor
open Go.RowKit
set_option linter.unusedVariables false

/-- The i-th rest and modulus. -/
def prAt (rs ms : List ByteArray) (i : Nat) : Nat × Nat := (dval (rs.getD i default).data.toList, dval (ms.getD i default).data.toList)
def prs (rs ms : List ByteArray) (k : Nat) : List (Nat × Nat) := (List.range k).map (prAt rs ms)
theorem prs_succ (rs ms : List ByteArray) (k : Nat) : prs rs ms (k + 1) = prs rs ms k ++ [prAt rs ms k] := by
  unfold prs; rw [List.range_succ, List.map_append, List.map_singleton]
theorem prs_len (rs ms : List ByteArray) (k : Nat) : (prs rs ms k).length = k := by unfold prs; simp
theorem prs_split (rs ms : List ByteArray) {k n : Nat} (h : k < n) : ∃ b, prs rs ms n = prs rs ms k ++ prAt rs ms k :: b := by
  induction n with
  | zero => omega
  | succ n ih =>
    by_cases hk : k = n
    · subst hk; exact ⟨[], prs_succ rs ms k⟩
    · obtain ⟨b, hb⟩ := ih (by omega)
      exact ⟨b ++ [prAt rs ms n], by rw [prs_succ, hb]; simp⟩
theorem prs_mem (rs ms : List ByteArray) {k : Nat} {p : Nat × Nat} (h : p ∈ prs rs ms k) : ∃ i, i < k ∧ p = prAt rs ms i := by
  unfold prs at h
  obtain ⟨i, hi, rfl⟩ := List.mem_map.1 h
  exact ⟨i, List.mem_range.1 hi, rfl⟩
def allGood (l : List ByteArray) : Bool := l.all fun s => goodB s.data.toList
theorem allGood_at {l : List ByteArray} (h : allGood l = true) {i : Nat} (hi : i < l.length) : goodB (l.getD i default).data.toList = true := by
  unfold allGood at h
  rw [List.all_eq_true] at h
  exact h _ (by simp [List.getD, List.getElem?_eq_getElem hi])
theorem allGood_of {l : List ByteArray} (h : ∀ i, i < l.length → goodB (l.getD i default).data.toList = true) : allGood l = true := by
  unfold allGood
  rw [List.all_eq_true]
  intro s hs
  obtain ⟨i, hi, rfl⟩ := List.getElem_of_mem hs
  have := h i hi
  simpa [List.getD, List.getElem?_eq_getElem hi] using this
/-- May the rest be told? -/
structure ChAll (rs ms : List ByteArray) : Prop where
  one : 1 ≤ rs.length
  most : rs.length ≤ 20
  len : ms.length = rs.length
  gr : allGood rs = true
  gm : allGood ms = true
  ok : ChOk (10 ^ 600) (prs rs ms rs.length)
/-- What both answer. -/
def ChAns (rs ms : List ByteArray) (e : Ending) : Prop :=
  (ChAll rs ms ∧ ∃ (s t : ByteArray) (x : Nat), e = .returned (.tuple #[.string s, .string t, .bool true]) ∧ Tx s x ∧ Tx t (prodL (mods (prs rs ms rs.length))) ∧ Leaves (prs rs ms rs.length) x ∧ x < prodL (mods (prs rs ms rs.length))) ∨
  (¬ ChAll rs ms ∧ e = .returned (.tuple #[.string ⟨#[]⟩, .string ⟨#[]⟩, .bool false]))
theorem ChAns.same {rs ms : List ByteArray} {e e' : Ending} (h : ChAns rs ms e) (g : ChAns rs ms e') : ∃ (s t : ByteArray) (o : Bool), e = .returned (.tuple #[.string s, .string t, .bool o]) ∧ e' = .returned (.tuple #[.string s, .string t, .bool o]) := by
  rcases h with ⟨h0, s, t, x, rfl, h1, h2, h3, h4⟩ | ⟨h0, rfl⟩
  · rcases g with ⟨_, s', t', x', rfl, g1, g2, g3, g4⟩ | ⟨g0, rfl⟩
    · obtain rfl : x = x' := leaves_one h0.ok.2.1 h3 g3 h4 g4
      obtain rfl := h1.inj g1
      obtain rfl := h2.inj g2
      exact ⟨_, _, _, rfl, rfl⟩
    · exact absurd h0 g0
  · rcases g with ⟨g0, _⟩ | ⟨_, rfl⟩
    · exact absurd g0 h0
    · exact ⟨_, _, _, rfl, rfl⟩
/-- The moduli so far are no noughts and have no common factors. -/
def ChPre (rs ms : List ByteArray) (k : Nat) : Prop := (∀ i, i < k → goodB (ms.getD i default).data.toList = true ∧ goodB (rs.getD i default).data.toList = true) ∧ (∀ p ∈ prs rs ms k, p.2 ≠ 0) ∧ (mods (prs rs ms k)).Pairwise Nat.Coprime
theorem ChPre.start (rs ms : List ByteArray) : ChPre rs ms 0 := ⟨fun i hi => by omega, fun p hp => (by cases hp), List.Pairwise.nil⟩
theorem mods_mem {rs ms : List ByteArray} {k m : Nat} (h : m ∈ mods (prs rs ms k)) : ∃ i, i < k ∧ m = dval (ms.getD i default).data.toList := by
  unfold mods at h
  obtain ⟨p, hp, rfl⟩ := List.mem_map.1 h
  obtain ⟨i, hi, rfl⟩ := prs_mem rs ms hp
  exact ⟨i, hi, rfl⟩
theorem ChPre.step {rs ms : List ByteArray} {k : Nat} (h : ChPre rs ms k) (hm : goodB (ms.getD k default).data.toList = true) (hr : goodB (rs.getD k default).data.toList = true) (h0 : dval (ms.getD k default).data.toList ≠ 0) (hg : ∀ i, i < k → Nat.gcd (dval (ms.getD i default).data.toList) (dval (ms.getD k default).data.toList) = 1) : ChPre rs ms (k + 1) := by
  obtain ⟨h1, h2, h3⟩ := h
  refine ⟨fun i hi => ?_, fun p hp => ?_, ?_⟩
  · by_cases e : i = k
    · subst e; exact ⟨hm, hr⟩
    · exact h1 i (by omega)
  · rw [prs_succ] at hp
    rcases List.mem_append.1 hp with hp | hp
    · exact h2 p hp
    · rw [List.mem_singleton] at hp
      subst hp; exact h0
  · rw [prs_succ, mods_append, List.pairwise_append]
    refine ⟨h3, List.pairwise_singleton _ _, fun x hx y hy => ?_⟩
    obtain ⟨i, hi, rfl⟩ := mods_mem hx
    have : y = dval (ms.getD k default).data.toList := by
      unfold mods at hy; simpa [prAt] using hy
    subst this
    exact hg i hi
theorem ChPre.fail {rs ms : List ByteArray} {k : Nat} (hk : k < rs.length) (h : ¬ (goodB (ms.getD k default).data.toList = true ∧ goodB (rs.getD k default).data.toList = true) ∨ dval (ms.getD k default).data.toList = 0 ∨ ∃ i, i < k ∧ Nat.gcd (dval (ms.getD i default).data.toList) (dval (ms.getD k default).data.toList) ≠ 1) : ¬ ChAll rs ms := by
  intro hA
  rcases h with h | h | ⟨i, hi, h⟩
  · exact h ⟨allGood_at hA.gm (by rw [hA.len]; exact hk), allGood_at hA.gr hk⟩
  · obtain ⟨b, hb⟩ := prs_split rs ms hk
    exact hA.ok.1 (prAt rs ms k) (by rw [hb]; simp) h
  · obtain ⟨b, hb⟩ := prs_split rs ms hk
    have h2 := hA.ok.2.1
    rw [hb, mods_append, List.pairwise_append] at h2
    refine h (h2.2.2 _ ?_ _ (List.mem_cons_self ..))
    unfold mods prs
    rw [List.map_map]
    exact List.mem_map.2 ⟨i, List.mem_range.2 hi, rfl⟩
/-- The whole product is at least one of the first ones'. -/
theorem prod_le {rs ms : List ByteArray} {k n : Nat} (hk : k ≤ n) (h0 : ∀ p ∈ prs rs ms n, p.2 ≠ 0) : prodL (mods (prs rs ms k)) ≤ prodL (mods (prs rs ms n)) := by
  induction n with
  | zero => rw [Nat.le_zero.1 hk]; exact Nat.le_refl _
  | succ n ih =>
    by_cases e : k = n + 1
    · rw [e]; exact Nat.le_refl _
    · refine Nat.le_trans (ih (by omega) (fun p hp => h0 p (by rw [prs_succ]; exact List.mem_append_left _ hp))) ?_
      rw [prs_succ, mods_append, prodL_append]
      refine Nat.le_mul_of_pos_right _ (prodL_pos fun x hx => ?_)
      unfold mods at hx
      have hx' : x = (prAt rs ms n).2 := by simpa using hx
      rw [hx']
      exact Nat.pos_of_ne_zero (h0 (prAt rs ms n) (by rw [prs_succ]; simp))
end Go.Proofs.YthbnacikomimfaaDoor
