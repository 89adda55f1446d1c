/-
  The factors that trying finds are primes that ascend, and their product is the number.
-/
import Derived.Test.YtmfpnbmfcoahbaaDoorFacMath
namespace Go.Proofs.YtmfpnbmfcoahbaaDoor
set_option linter.unusedVariables false

/-- No divisor from 2 on below q. -/
def Rough (q n : Nat) : Prop := ∀ d, 2 ≤ d → d < q → ¬ d ∣ n
def Prm (f : Nat) : Prop := 2 ≤ f ∧ Rough f f
theorem Rough.two (n : Nat) : Rough 2 n := fun d h1 h2 _ => by omega
theorem Rough.dvd {q n m : Nat} (h : Rough q n) (hd : m ∣ n) : Rough q m := fun d h1 h2 h3 => h d h1 h2 (Nat.dvd_trans h3 hd)
theorem Rough.next {q n : Nat} (h : Rough q n) (hq : ¬ q ∣ n) : Rough (q + 1) n := fun d h1 h2 h3 => by
  rcases Nat.lt_or_ge d q with h4 | h4
  · exact h d h1 h4 h3
  · obtain rfl : d = q := by omega
    exact hq h3
def prodN : List Nat → Nat
  | [] => 1
  | n :: l => n * prodN l
theorem prodN_app (l k : List Nat) : prodN (l ++ k) = prodN l * prodN k := by
  induction l with
  | nil => simp [prodN]
  | cons n l ih => simp only [List.cons_append, prodN, ih, Nat.mul_assoc]
/-- What dividing out leaves. -/
theorem inn_all {q : Nat} (hq : 2 ≤ q) : ∀ n, 0 < n → (∀ f ∈ (inn q n).1, f = q ∧ q ∣ n) ∧ prodN (inn q n).1 * (inn q n).2 = n ∧ (inn q n).2 ∣ n ∧ ¬ q ∣ (inn q n).2 ∧ 0 < (inn q n).2 := by
  intro n
  induction n using Nat.strongRecOn with
  | _ n ih =>
    intro h0
    by_cases hd : n % q = 0
    · have hdv := Nat.dvd_of_mod_eq_zero hd
      rw [inn_yes hq h0 hd]
      obtain ⟨h1, h2, h3, h4, h5⟩ := ih (n / q) (Nat.div_lt_self h0 (by omega)) (div_pos_of hq h0 hd)
      have hmul := Nat.mul_div_cancel' hdv
      refine ⟨fun f hf => ?_, ?_, Nat.dvd_trans h3 (Nat.div_dvd_of_dvd hdv), h4, h5⟩
      · rcases List.mem_cons.1 hf with rfl | hf
        · exact ⟨rfl, hdv⟩
        · exact ⟨(h1 f hf).1, hdv⟩
      · simp only [prodN]
        rw [Nat.mul_assoc, h2, hmul]
    · rw [inn_no hd]
      refine ⟨fun f hf => (by cases hf), ?_, Nat.dvd_refl n, fun h => hd (Nat.mod_eq_zero_of_dvd h), h0⟩
      simp [prodN]
theorem last_prm {q n : Nat} (hr : Rough q n) (h : ¬ q * q ≤ n) (h1 : 1 < n) : Prm n := by
  refine ⟨h1, fun d h2 h3 h4 => ?_⟩
  rcases Nat.lt_or_ge d q with h5 | h5
  · exact hr d h2 h5 h4
  · obtain ⟨k, hk⟩ := h4
    have hk2 : 2 ≤ k := by
      rcases Nat.lt_or_ge k 2 with h6 | h6
      · exfalso
        rcases (show k = 0 ∨ k = 1 by omega) with e | e
        · subst e; omega
        · subst e; omega
      · exact h6
    have hkq : k < q := by
      rcases Nat.lt_or_ge k q with h6 | h6
      · exact h6
      · exfalso
        have := Nat.mul_le_mul h5 h6
        omega
    exact hr k hk2 hkq ⟨d, by rw [hk, Nat.mul_comm]⟩
/-- All that is told of the factors from q on. -/
theorem fac_all (q n : Nat) : 2 ≤ q → 0 < n → Rough q n → (∀ f ∈ fac q n, Prm f ∧ q ≤ f ∧ f ∣ n) ∧ prodN (fac q n) = n ∧ (fac q n).Pairwise (· ≤ ·) := by
  intro hq
  obtain ⟨k, hk⟩ : ∃ k, k = n - q := ⟨_, rfl⟩
  induction k using Nat.strongRecOn generalizing q n with
  | _ k ih =>
    intro h0 hr
    by_cases hle : q * q ≤ n
    · rw [fac_yes hq hle]
      obtain ⟨i1, i2, i3, i4, i5⟩ := inn_all hq n h0
      have hqn : q * 2 ≤ q * q := Nat.mul_le_mul_left _ hq
      have hin := inn_le q n
      have hr2 : Rough (q + 1) (inn q n).2 := (hr.dvd i3).next i4
      obtain ⟨j1, j2, j3⟩ := ih ((inn q n).2 - (q + 1)) (by omega) (q + 1) (inn q n).2 (by omega) rfl i5 hr2
      refine ⟨fun f hf => ?_, by rw [prodN_app, j2, i2], ?_⟩
      · rcases List.mem_append.1 hf with hf | hf
        · obtain ⟨rfl, hd⟩ := i1 f hf
          exact ⟨⟨hq, hr.dvd hd⟩, Nat.le_refl _, hd⟩
        · obtain ⟨h1, h2, h3⟩ := j1 f hf
          exact ⟨h1, by omega, Nat.dvd_trans h3 i3⟩
      · refine List.pairwise_append.2 ⟨?_, j3, fun f hf g hg => ?_⟩
        · refine List.Pairwise.imp_of_mem (R := fun _ _ => True) (fun {f g} hf hg _ => ?_) (List.pairwise_of_forall (fun _ _ => trivial))
          rw [(i1 f hf).1, (i1 g hg).1]; exact Nat.le_refl _
        · rw [(i1 f hf).1]; have := (j1 g hg).2.1; omega
    · rw [fac_no hle]
      by_cases h1 : 1 < n
      · rw [if_pos h1]
        have hp := last_prm hr hle h1
        refine ⟨fun f hf => ?_, by simp [prodN], List.pairwise_singleton _ _⟩
        rcases List.mem_cons.1 hf with rfl | hf
        · refine ⟨hp, ?_, Nat.dvd_refl _⟩
          rcases Nat.lt_or_ge f q with h2 | h2
          · exact absurd (Nat.dvd_refl f) (hr f h1 h2)
          · exact h2
        · cases hf
      · rw [if_neg h1]
        refine ⟨fun f hf => (by cases hf), ?_, List.Pairwise.nil⟩
        simp only [prodN]; omega
/-- A prime is its own factor alone. -/
theorem fac_prm {f : Nat} (hp : Prm f) (q : Nat) : 2 ≤ q → fac q f = [f] := by
  intro hq
  obtain ⟨k, hk⟩ : ∃ k, k = f - q := ⟨_, rfl⟩
  induction k using Nat.strongRecOn generalizing q with
  | _ k ih =>
    by_cases hle : q * q ≤ f
    · have hqn : q * 2 ≤ q * q := Nat.mul_le_mul_left _ hq
      have hno : f % q ≠ 0 := fun h => hp.2 q hq (by omega) (Nat.dvd_of_mod_eq_zero h)
      rw [fac_yes hq hle, inn_no hno]
      exact ih (f - (q + 1)) (by omega) (q + 1) (by omega) rfl
    · rw [fac_no hle, if_pos (by have := hp.1; omega)]
end Go.Proofs.YtmfpnbmfcoahbaaDoor
