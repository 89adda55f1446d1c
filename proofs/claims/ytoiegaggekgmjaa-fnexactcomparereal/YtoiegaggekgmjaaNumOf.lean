/-
  What NumOfReal of impl and of spec answer.
-/
import Derived.Test.YtoiegaggekgmjaaRealParts
import Derived.Test.YtoiegaggekgmjaaSpecReal
import Derived.Test.YtoiegaggekgmjaaPkImplMake
namespace Go.Proofs.Ytoiegaggekgmjaa
open Go.RowKit
set_option linter.unusedVariables false

theorem cop_dvd {p q n d : Nat} (h : Nat.gcd p q = 1) (he : p * d = n * q) : p ∣ n := by
  have h1 : p ∣ n * q := ⟨d, he.symm⟩
  exact Nat.Coprime.dvd_of_dvd_mul_right h h1
/-- Lowest terms are one. -/
theorem low_one {P Q N D : Nat} (he : P * D = N * Q) (hQ : Q ≠ 0) (hD : D ≠ 0) : P / Nat.gcd P Q = N / Nat.gcd N D ∧ Q / Nat.gcd P Q = D / Nat.gcd N D := by
  have hg1 : 0 < Nat.gcd P Q := Nat.gcd_pos_of_pos_right P (Nat.pos_of_ne_zero hQ)
  have hg2 : 0 < Nat.gcd N D := Nat.gcd_pos_of_pos_right N (Nat.pos_of_ne_zero hD)
  have c1 : Nat.gcd (P / Nat.gcd P Q) (Q / Nat.gcd P Q) = 1 := by rw [Nat.gcd_div (Nat.gcd_dvd_left P Q) (Nat.gcd_dvd_right P Q), Nat.div_self hg1]
  have c2 : Nat.gcd (N / Nat.gcd N D) (D / Nat.gcd N D) = 1 := by rw [Nat.gcd_div (Nat.gcd_dvd_left N D) (Nat.gcd_dvd_right N D), Nat.div_self hg2]
  have e1 : P = P / Nat.gcd P Q * Nat.gcd P Q := (Nat.div_mul_cancel (Nat.gcd_dvd_left P Q)).symm
  have e2 : Q = Q / Nat.gcd P Q * Nat.gcd P Q := (Nat.div_mul_cancel (Nat.gcd_dvd_right P Q)).symm
  have e3 : N = N / Nat.gcd N D * Nat.gcd N D := (Nat.div_mul_cancel (Nat.gcd_dvd_left N D)).symm
  have e4 : D = D / Nat.gcd N D * Nat.gcd N D := (Nat.div_mul_cancel (Nat.gcd_dvd_right N D)).symm
  generalize hg : Nat.gcd P Q = g at *
  generalize hk : Nat.gcd N D = k at *
  generalize P / g = p at *
  generalize Q / g = q at *
  generalize N / k = n at *
  generalize D / k = d at *
  have key : p * d = n * q := by
    rw [e1, e2, e3, e4] at he
    have h2 : (g * k) * (p * d) = (g * k) * (n * q) := by
      grind
    exact Nat.eq_of_mul_eq_mul_left (Nat.mul_pos hg1 hg2) h2
  have a1 : p ∣ n := cop_dvd c1 key
  have a2 : n ∣ p := cop_dvd c2 key.symm
  have a3 : q ∣ d := cop_dvd (by rw [Nat.gcd_comm]; exact c1) (show q * n = d * p by rw [Nat.mul_comm, ← key, Nat.mul_comm])
  have a4 : d ∣ q := cop_dvd (by rw [Nat.gcd_comm]; exact c2) (show d * p = q * n by rw [Nat.mul_comm, key, Nat.mul_comm])
  exact ⟨Nat.dvd_antisymm a1 a2, Nat.dvd_antisymm a3 a4⟩

/-- What NumOfReal answers. -/
def NumAns (g : Bool) (m e : Int) (v : Ending) : Prop :=
  (finB m e = false ∧ v = .returned (.tuple #[.string ⟨#[]⟩, .bool false])) ∨
  (finB m e = true ∧ ∃ s : ByteArray, v = .returned (.tuple #[.string s, .bool true]) ∧ TellsN (g && decide (m.toNat ≠ 0)) (vN m.toNat e / Nat.gcd (vN m.toNat e) (vD e)) (vD e / Nat.gcd (vN m.toNat e) (vD e)) (.returned (.tuple #[.string s, .bool true])))
theorem NumAns.same {g : Bool} {m e : Int} {v v' : Ending} (h : NumAns g m e v) (h' : NumAns g m e v') : ∃ (s : ByteArray) (o : Bool), v = .returned (.tuple #[.string s, .bool o]) ∧ v' = .returned (.tuple #[.string s, .bool o]) := by
  rcases h with ⟨h1, rfl⟩ | ⟨h1, s, rfl, hs⟩
  · rcases h' with ⟨h2, rfl⟩ | ⟨h2, _⟩
    · exact ⟨_, _, rfl, rfl⟩
    · rw [h1] at h2; cases h2
  · rcases h' with ⟨h2, _⟩ | ⟨h2, s', rfl, hs'⟩
    · rw [h1] at h2; cases h2
    · obtain ⟨t, o, e1, e2⟩ := hs.same hs'
      exact ⟨t, o, e1, e2⟩
/-- It is told. -/
theorem TellsN.told {g : Bool} {n m : Nat} {e : Ending} (h : TellsN g n m e) (h1 : n < 10 ^ 600) (h2 : m < 10 ^ 600) : ∃ s : ByteArray, e = .returned (.tuple #[.string s, .bool true]) := by
  obtain ⟨s, rfl, _⟩ := h
  exact ⟨s, by rw [decide_eq_true h1, decide_eq_true h2]; rfl⟩
theorem low_ten {n : Nat} {e : Int} (h : FinR n e) : vN n e / Nat.gcd (vN n e) (vD e) < 10 ^ 600 ∧ vD e / Nat.gcd (vN n e) (vD e) < 10 ^ 600 := by
  have he : -150 ≤ e := by unfold FinR at h; omega
  refine ⟨Nat.lt_of_le_of_lt (Nat.div_le_self _ _) (Nat.lt_trans (vN_lt h) (two_lt 203 (by omega))), Nat.lt_of_le_of_lt (Nat.div_le_self _ _) (Nat.lt_of_le_of_lt (vD_lt he) (two_lt 150 (by omega)))⟩

set_option maxHeartbeats 4000000 in
set_option maxRecDepth 100000 in
theorem lbNumT {n : Nat} (g : Bool) (m e : Int) (w : World) (hm : m = (n : Int)) (hf : FinR n e) :
    Calls Try.prog 66 #[.agg #[.bool g, .int .i64 m, .int .i64 e]] w fun e' w' => (∃ s : ByteArray, e' = .returned (.string s) ∧ TellsN (g && decide (n ≠ 0)) (vN n e / Nat.gcd (vN n e) (vD e)) (vD e / Nat.gcd (vN n e) (vD e)) (.returned (.tuple #[.string s, .bool true]))) ∧ Below w.heap.size w w' := by
  have A := RowAt.new w 25 #[.bool g, .int .i64 m, .int .i64 e]
  have hB : Below w.heap.size w (w.alloc (.cells #[.bool g, .int .i64 m, .int .i64 e] 25)) := (Below.refl _ _).alloc (Nat.le_refl _) _
  have HN := hide (And.intro hm hf)
  clear hm hf
  go_enter Try.func66, Try.ntmps66
  go_wp2_with fail
  refine (partsT g m e _ HN.out.1 HN.out.2).mono ?_
  rintro _ w1 ⟨⟨s, t, rfl, P, Q, hP, hQ, q0, hx, b0, d0⟩, hW1⟩
  have hs1 := hW1.size
  simp only [World.size_alloc] at hs1
  have A1 := RowAt.below A hW1 (by simp)
  have hB1 : Below w.heap.size w w1 := hB.trans (hW1.mono (by simp))
  have c0 : w1.cell? ⟨w.heap.size, 0, none⟩ = some (.bool g) := by rw [cell_of_row w1 _ _ _ _ _ A1]; rfl
  have z0 : s.size ≤ 600 := hP.size (Nat.lt_of_le_of_lt b0 (Nat.lt_trans (vN_lt HN.out.2) (two_lt 203 (by omega)))) (by omega)
  have y0 : t.size ≤ 600 := hQ.size (Nat.lt_of_le_of_lt d0 (Nat.lt_of_le_of_lt (vD_lt (by have := HN.out.2; unfold FinR at this; omega)) (two_lt 150 (by omega)))) (by omega)
  have HP := hide (And.intro hP (And.intro hQ (And.intro q0 hx)))
  clear A hB hW1 A1 hP hQ q0 hx b0 d0
  go_wp2_with fail
  refine (l2Make_any g s t w1 (by omega) (by omega) HP.out.1.1 HP.out.2.1.1 (by rw [HP.out.2.1.2]; exact HP.out.2.2.1)).mono ?_
  rintro e' w2 ⟨hA, hW2⟩
  have HA2 : Hid (TellsN (g && decide (n ≠ 0)) (vN n e / Nat.gcd (vN n e) (vD e)) (vD e / Nat.gcd (vN n e) (vD e)) e') := by
    unfold Hid
    rw [HP.out.1.2, HP.out.2.1.2] at hA
    obtain ⟨h1, h2⟩ := low_one HP.out.2.2.2 HP.out.2.2.1 (vD_ne e)
    rw [h1, h2] at hA
    have h3 : decide (P ≠ 0) = decide (n ≠ 0) := by
      refine decide_eq_decide.2 ?_
      have h4 : P = 0 ↔ n = 0 := by
        have hx := HP.out.2.2.2
        constructor
        · intro hp
          rw [hp, Nat.zero_mul] at hx
          rcases Nat.mul_eq_zero.1 hx.symm with h5 | h5
          · unfold vN at h5
            rcases Nat.mul_eq_zero.1 h5 with h6 | h6
            · exact h6
            · have := Nat.two_pow_pos e.toNat; omega
          · exact absurd h5 HP.out.2.2.1
        · intro hn
          rw [hn] at hx
          unfold vN at hx
          rw [Nat.zero_mul, Nat.zero_mul] at hx
          rcases Nat.mul_eq_zero.1 hx with h5 | h5
          · exact h5
          · exact absurd h5 (vD_ne e)
      omega
    rw [h3] at hA
    exact hA
  obtain ⟨u, hu⟩ := HA2.out.told (low_ten HN.out.2).1 (low_ten HN.out.2).2
  subst hu
  have hB2 : Below w.heap.size w w2 := hB1.trans (hW2.mono (by omega))
  clear hA hW2 hB1 c0
  go_wp2
  go_ret
  exact ⟨⟨u, rfl, HA2.out⟩, hB2⟩

end Go.Proofs.Ytoiegaggekgmjaa
