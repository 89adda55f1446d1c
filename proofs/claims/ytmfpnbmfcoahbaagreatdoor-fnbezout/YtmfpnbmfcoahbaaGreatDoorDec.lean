/-
  Decimal numerals of the library: plain facts.
-/
import Derived.Test.YtmfpnbmfcoahbaaGreatDoorPkMath
import Derived.Lib.ItoaNum
namespace Go.Proofs.YtmfpnbmfcoahbaaGreatDoor

theorem dig_ofNat (d : Nat) (h : d < 10) : isDig (UInt8.ofNat (48 + d)) = true ∧ dv (UInt8.ofNat (48 + d)) = d := by
  have : (UInt8.ofNat (48 + d)).toNat = 48 + d := by simp; omega
  unfold isDig dv
  rw [this]
  exact ⟨by simp; omega, by omega⟩

theorem canon_append {l m : List UInt8} (hl : canonB l = true) (h0 : dval l ≠ 0) (hm : m.all isDig = true) : canonB (l ++ m) = true := by
  cases l with
  | nil => simp [canonB] at hl
  | cons c l =>
    obtain ⟨hc, hl', hz⟩ := canon_cons hl
    have hne : c ≠ 48 := by
      rcases hz with hz | hz
      · exact hz
      · intro e; subst e; subst hz; exact h0 (by decide)
    simp only [List.cons_append, canonB, List.all_cons, List.all_append, hc, hl', hm, Bool.and_self, Bool.true_and, Bool.or_eq_true, Bool.not_eq_true', beq_eq_false_iff_ne]
    exact .inl hne

theorem dec_canon (u : Nat) : canonB (Lib.decDigits u) = true ∧ dval (Lib.decDigits u) = u := by
  induction u using Nat.strongRecOn with
  | _ u ih =>
    by_cases h : u < 10
    · have := dig_ofNat u h
      rw [Lib.decDigits, dif_pos h]
      generalize UInt8.ofNat (48 + u) = c at *
      constructor
      · simp [canonB, this.1]
      · simp [dval, this.2]
    · have ih' := ih (u / 10) (by omega)
      have hd := dig_ofNat (u % 10) (by omega)
      rw [Lib.decDigits, dif_neg h]
      generalize UInt8.ofNat (48 + u % 10) = c at *
      refine ⟨canon_append ih'.1 (by rw [ih'.2]; omega) (by simp [hd.1]), ?_⟩
      rw [dval_snoc, ih'.2, hd.2]; omega

/-- A part with the base added: a 1 and the part's six digits. -/
theorem dec_part (x : Nat) (h : x < 1000000) : ∃ (c : UInt8) (m : List UInt8), Lib.decDigits (1000000 + x) = c :: m ∧ m.length = 6 ∧ m.all isDig = true ∧ dval m = x := by
  obtain ⟨hc, hv⟩ := dec_canon (1000000 + x)
  have h1 : (Lib.decDigits (1000000 + x)).length ≤ 7 := (canon_len_le hc 7 (by omega)).2 (by rw [hv]; omega)
  have h2 : ¬ (Lib.decDigits (1000000 + x)).length ≤ 6 := fun hh => by
    have := (canon_len_le hc 6 (by omega)).1 hh; rw [hv] at this; omega
  cases hd : Lib.decDigits (1000000 + x) with
  | nil => rw [hd] at h2; simp at h2
  | cons c m =>
    rw [hd] at hc hv h1 h2
    simp only [List.length_cons] at h1 h2
    obtain ⟨hcd, hm, _⟩ := canon_cons hc
    refine ⟨c, m, rfl, by omega, hm, ?_⟩
    rw [dval_cons] at hv
    have hl : m.length = 6 := by omega
    have hlt := dval_lt m hm
    rw [hl] at hv hlt
    have : dv c = 1 := by omega
    rw [this] at hv; omega
end Go.Proofs.YtmfpnbmfcoahbaaGreatDoor
