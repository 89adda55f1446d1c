/-
  What tellNum of impl answers.
-/
import Derived.Test.YtcdidibphaemoaaDoorNumText
namespace Go.Proofs.YtcdidibphaemoaaDoor
open Go.RowKit
set_option linter.unusedVariables false

/-- It tells the fraction, where top and bottom are not too long. -/
def TellsN (g : Bool) (n m : Nat) (e : Ending) : Prop := ∃ s : ByteArray, e = .returned (.tuple #[.string s, .bool (decide (n < 10 ^ 600) && decide (m < 10 ^ 600))]) ∧ ((decide (n < 10 ^ 600) && decide (m < 10 ^ 600)) = true → NumR 10 g n m s) ∧ ((decide (n < 10 ^ 600) && decide (m < 10 ^ 600)) = false → s = ⟨#[]⟩)
theorem TellsN.same {g : Bool} {n m : Nat} {e e' : Ending} (h : TellsN g n m e) (h' : TellsN g n m e') : ∃ (s : ByteArray) (o : Bool), e = .returned (.tuple #[.string s, .bool o]) ∧ e' = .returned (.tuple #[.string s, .bool o]) := by
  obtain ⟨s, rfl, h1, h2⟩ := h
  obtain ⟨s', rfl, h1', h2'⟩ := h'
  have : s = s' := by
    cases hb : (decide (n < 10 ^ 600) && decide (m < 10 ^ 600)) with
    | true => exact (h1 hb).inj (h1' hb)
    | false => rw [h2 hb, h2' hb]
  subst this
  exact ⟨s, _, rfl, rfl⟩
theorem TellsN.yes {g : Bool} {n m : Nat} {s : ByteArray} (hn : n < 10 ^ 600) (hm : m < 10 ^ 600) (h : NumR 10 g n m s) : TellsN g n m (.returned (.tuple #[.string s, .bool true])) := by
  refine ⟨s, ?_, fun _ => h, fun hb => ?_⟩
  · rw [decide_eq_true hn, decide_eq_true hm]; rfl
  · rw [decide_eq_true hn, decide_eq_true hm] at hb; cases hb
theorem TellsN.no {g : Bool} {n m : Nat} (h : ¬ n < 10 ^ 600 ∨ ¬ m < 10 ^ 600) : TellsN g n m (.returned (.tuple #[.string ⟨#[]⟩, .bool false])) := by
  have hb : (decide (n < 10 ^ 600) && decide (m < 10 ^ 600)) = false := by
    rcases h with h | h
    · rw [decide_eq_false h]; rfl
    · rw [decide_eq_false h, Bool.and_false]
  refine ⟨⟨#[]⟩, by rw [hb], ?_, fun _ => rfl⟩
  intro h; rw [hb] at h; cases h

set_option maxHeartbeats 1000000 in
set_option maxRecDepth 100000 in
theorem numFits_any (g : Bool) (k j : Nat) (p q : List Int) (w : World) (hp : p.length = 204) (hq : q.length = 204) :
    Calls Tryd.prog 79 #[.agg (numC g k p j q)] w fun e w' => e = .returned (.bool (decide (k ≤ 100) && decide (j ≤ 100))) ∧ Below w.heap.size w w' := by
  have A := NumAt.new w g k p j q
  have hB : Below w.heap.size w (w.alloc (.cells (numC g k p j q) 45)) := (Below.refl _ _).alloc (Nat.le_refl _) _
  go_enter Tryd.func79, Tryd.ntmps79
  go_wp2_with (refine load_mid_nat rfl _ rfl w.heap.size 1 rfl k p A.size hp ?_)
  refine (fits_any k p _).mono ?_
  rintro e w1 ⟨rfl, hW1⟩
  have A1 : NumAt w1 w.heap.size g k p j q := A.below hW1 (by simp)
  have hB1 : Below w.heap.size w w1 := hB.trans (hW1.mono (by simp))
  have hs1 := hW1.size
  simp only [World.size_alloc] at hs1
  clear A hB hW1
  by_cases hk : k ≤ 100
  · rw [decide_eq_true hk]
    go_wp2_with fail
    refine wp_mid_nat _ rfl w.heap.size 206 rfl j q (A1.bottom hp) hq ?_
    go_wp2_with fail
    refine (fits_any j q _).mono ?_
    rintro e w2 ⟨rfl, hW2⟩
    have hB2 : Below w.heap.size w w2 := hB1.trans (hW2.mono (by omega))
    clear A1 hB1 hW2
    cases hd : decide (j ≤ 100) with
    | true =>
      have HD := hide hd
      clear hd
      go_wp2
      go_ret
      exact ⟨by rw [decide_eq_true hk, HD.out]; rfl, hB2⟩
    | false =>
      have HD := hide hd
      clear hd
      go_wp2
      go_ret
      exact ⟨by rw [decide_eq_true hk, HD.out]; rfl, hB2⟩
  · rw [decide_eq_false hk]
    go_wp2
    go_ret
    exact ⟨by rw [decide_eq_false hk]; rfl, hB1⟩

set_option maxHeartbeats 1000000 in
set_option maxRecDepth 100000 in
theorem tellNum_any {n m k j : Nat} {p q : List Int} (g : Bool) (w : World) (hP : Rep n k p) (hQ : Rep m j q) (hT : Tab w.heap.size w) :
    Calls Tryd.prog 39 #[.agg (numC g k p j q)] w fun e w' => TellsN g n m e ∧ Below w.heap.size w w' := by
  have hz := zero_nat.1
  have hz1 := zero_whole.1
  have hp := hP.len
  have hq := hQ.len
  have A := NumAt.new w g k p j q
  have hB : Below w.heap.size w (w.alloc (.cells (numC g k p j q) 45)) := (Below.refl _ _).alloc (Nat.le_refl _) _
  have HT := hide hT
  have HP := hide hP
  have HQ := hide hQ
  clear hP hQ hT
  go_enter Tryd.func39, Tryd.ntmps39
  go_wp2_with (refine load_num rfl _ rfl w.heap.size rfl g k p j q A hp hq ?_)
  refine (numFits_any g k j p q _ hp hq).mono ?_
  rintro e w2 ⟨rfl, hW1⟩
  have A2 : NumAt w2 w.heap.size g k p j q := A.below hW1 (by simp)
  have hB2 : Below w.heap.size w w2 := hB.trans (hW1.mono (by simp))
  have HT2 : Hid (Tab w2.heap.size w2) := (HT.out.on hB2).up hB2.size
  clear A hB hW1
  by_cases hk : k ≤ 100
  · by_cases hj : j ≤ 100
    · rw [decide_eq_true hj, decide_eq_true hk]
      go_wp2_with (refine load_num rfl _ rfl w.heap.size rfl g k p j q A2 hp hq ?_)
      refine (numText_any g 10 10 w2 HP.out HQ.out hk hj rfl (by omega) (by omega) HT2.out).mono ?_
      rintro e w3 ⟨s, rfl, hN, hW3⟩
      have HN := hide (TellsN.yes (HP.out.fits.1 hk) (HQ.out.fits.1 hj) hN)
      clear hN
      go_wp2
      go_ret2
      exact ⟨HN.out, hB2.trans (hW3.mono hB2.size)⟩
    · rw [decide_eq_false hj, Bool.and_false]
      have HN := hide (TellsN.no (g := g) (n := n) (m := m) (.inr (fun h => hj (HQ.out.fits.2 h))))
      go_wp2
      go_ret2
      exact ⟨HN.out, hB2⟩
  · rw [decide_eq_false hk, Bool.false_and]
    have HN := hide (TellsN.no (g := g) (n := n) (m := m) (.inl (fun h => hk (HP.out.fits.2 h))))
    go_wp2
    go_ret2
    exact ⟨HN.out, hB2⟩
end Go.Proofs.YtcdidibphaemoaaDoor
