/-
  What readTree and GoodTerm of the program answer.
-/
import Derived.Test.YtgolfbjfopoeeaaDoorTreeRead
import Derived.Deep.QuietTactic
import Derived.BigQuiet
namespace Go.Proofs.YtgolfbjfopoeeaaDoor
open Go.RowKit
set_option linter.unusedVariables false

theorem TrIn.drN {w : World} {P : Nat → Prop} {t : Lm} {b : Nat} (h : TrIn w P t b) (k : Nat) : TrIn (w.drewN k) P t b := TrIn.keep (w := w) (w' := w.drewN k) (Nat.le_refl _) (fun _ _ _ => rfl) (fun _ h _ => h) h
theorem below_drN {N : Nat} {w w' : World} (h : Below N w w') (k : Nat) : Below N w (w'.drewN k) := ⟨h.os, h.tape, h.output, h.size, h.block⟩
/-- The answer of readTree. -/
def readTAns (w : World) (l : List Nd) (e : Ending) (w' : World) : Prop :=
  (∃ p, e = .returned (.tuple #[.pointer p, .bool false]) ∧ readP' l = none) ∨ ∃ t b, e = .returned (.tuple #[.pointer (some ⟨b, 0, none⟩), .bool true]) ∧ readP' l = some t ∧ TrIn w' (fun x => w.heap.size ≤ x) t b

set_option maxHeartbeats 4000000 in
set_option maxRecDepth 100000 in
theorem readTree_any (l : List Nd) (v : Value) (w : World) (hv : NdIn w v l) (hl0 : l.length ≤ 1048576) :
    Calls Tryd.prog 29 #[v] w fun e w' => readTAns w l e w' ∧ Below w.heap.size w w' := by
  have HV := hideT' hv
  obtain ⟨o, cap, rfl⟩ := hv.len
  clear hv
  have hz := zero_term.1
  by_cases hl : (150 : Int) < (l.length : Int)
  · have HP : Hid (readP' l = none) := by unfold Hid readP'; rw [if_pos (by omega)]
    go_enter Tryd.func29, Tryd.ntmps29
    go_wp2_with fail
    refine (limits_any 0 0 0 _).mono ?_
    rintro e w1 ⟨rfl, rfl⟩
    go_wp2
    go_ret2
    exact ⟨.inl ⟨_, rfl, HP.out⟩, ((Below.refl _ _).alloc (Nat.le_refl _) _).alloc (by simp) _⟩
  · have hl1 : l.length ≤ 150 := by omega
    have hB1 : Below w.heap.size w ((w.alloc (.cells #[.int .i64 0, .int .i64 0, .int .i64 0] 51)).alloc (.cells #[.int .i64 0, .int .i64 0, .int .i64 0] 51)) := ((Below.refl _ _).alloc (Nat.le_refl _) _).alloc (by simp) _
    have HB1 := hideT' hB1
    have HC := hideT' (treeAt_any l hl1 40 0 (-1) _ _ (by omega) (by omega) (HV.out.below hB1))
    clear hB1
    go_enter Tryd.func29, Tryd.ntmps29
    go_wp2_with fail
    refine (limits_any 0 0 0 _).mono ?_
    rintro e w1 ⟨rfl, rfl⟩
    go_wp2_with fail
    refine HC.out.mono ?_
    rintro e w2 ⟨hans, hB2⟩
    have HB2 : Hid (Below w.heap.size w w2) := HB1.out.trans (hB2.mono (by simp; omega))
    cases hres : treeP l 40 0 (-1) with
    | none =>
      have HP : Hid (readP' l = none) := by unfold Hid readP'; rw [if_neg (by omega), hres]
      rw [hres] at hans
      obtain ⟨p, rfl⟩ := hans
      clear hres hB2
      go_wp2_with fail
      go_quiet (fail)
      go_wp2
      go_ret2
      exact ⟨.inl ⟨_, rfl, HP.out⟩, below_drN HB2.out _⟩
    | some t =>
      rw [hres] at hans
      obtain ⟨b, rfl, hb⟩ := hans
      have hsz := hb.size
      have HT : Hid (TrIn w2 (fun x => w.heap.size ≤ x) t b) := TrIn.mono (fun x hx _ => by simp at hx; omega) hb
      have HP : Hid (readP' l = if t.sz = l.length then some t else none) := by unfold Hid readP'; rw [if_neg (by omega), hres]
      clear hres hB2 hb
      by_cases hs : (t.sz : Int) = (l.length : Int)
      · have HP2 : Hid (readP' l = some t) := by unfold Hid; rw [HP.out, if_pos (by omega)]
        have hsb : ((t.sz : Int) == (l.length : Int)) = true := by simp only [beq_iff_eq]; omega
        go_wp2_with fail
        go_quiet (fail)
        go_wp2
        go_ret2
        exact ⟨.inr ⟨t, b, by first | rfl | (show Ending.returned (.tuple #[_, .bool ((t.sz : Int) == (l.length : Int))]) = _; rw [hsb]), HP2.out, HT.out.drN _⟩, below_drN HB2.out _⟩
      · have HP2 : Hid (readP' l = none) := by unfold Hid; rw [HP.out, if_neg (by omega)]
        have hsb : ((t.sz : Int) == (l.length : Int)) = false := by simp only [beq_eq_false_iff_ne]; omega
        go_wp2_with fail
        go_quiet (fail)
        go_wp2
        go_ret2
        exact ⟨.inl ⟨some ⟨b, 0, none⟩, by first | rfl | (show Ending.returned (.tuple #[_, .bool ((t.sz : Int) == (l.length : Int))]) = _; rw [hsb]; rfl), HP2.out⟩, below_drN HB2.out _⟩
end Go.Proofs.YtgolfbjfopoeeaaDoor
