/-
  What lbParts of spec answers: top and bottom of a finite real.
-/
import Derived.Test.YtoiegaggekgmjaaPkSpecNear
import Derived.Test.YtoiegaggekgmjaaPkRealNum
import Derived.Test.YtoiegaggekgmjaaNumAll
namespace Go.Proofs.Ytoiegaggekgmjaa
open Go.RowKit
set_option linter.unusedVariables false

/-- Top and bottom of a real, as texts. -/
def PartsR (n : Nat) (e : Int) (s t : ByteArray) : Prop := ∃ P Q : Nat, Tx s P ∧ Tx t Q ∧ Q ≠ 0 ∧ P * vD e = vN n e * Q ∧ P ≤ vN n e ∧ Q ≤ vD e
def PartsA (n : Nat) (e : Int) (v : Ending) : Prop := ∃ s t : ByteArray, v = .returned (.tuple #[.string s, .string t]) ∧ PartsR n e s t
theorem numAllT (n : Nat) (z : Int) (w : World) (hz : z = (n : Int)) (hn : z < 9007199254740992) :
    Calls Try.prog 79 #[.int .i64 z] w fun e w' => ∃ s : ByteArray, e = .returned (.string s) ∧ Tx s n ∧ Below w.heap.size w w' := by
  subst hz
  refine (l1NumNat_any n (by omega) w).mono ?_
  rintro e w' ⟨s, rfl, h1, h2, h3⟩
  exact ⟨s, rfl, ⟨h1, h2⟩, h3⟩
theorem Tx.small {s : ByteArray} {n : Nat} (h : Tx s n) (hn : n < 9007199254740992) : s.size ≤ 16 := h.size (Nat.lt_trans hn (by decide)) (by omega)

set_option maxHeartbeats 4000000 in
set_option maxRecDepth 100000 in
theorem partsT {n : Nat} (g : Bool) (m e : Int) (w : World) (hm : m = (n : Int)) (hf : FinR n e) :
    Calls Try.prog 45 #[.agg #[.bool g, .int .i64 m, .int .i64 e]] w fun e' w' => PartsA n e e' ∧ Below w.heap.size w w' := by
  have A := RowAt.new w 25 #[.bool g, .int .i64 m, .int .i64 e]
  have hB : Below w.heap.size w (w.alloc (.cells #[.bool g, .int .i64 m, .int .i64 e] 25)) := (Below.refl _ _).alloc (Nat.le_refl _) _
  have hws : (w.alloc (.cells #[.bool g, .int .i64 m, .int .i64 e] 25)).heap.size = w.heap.size + 1 := by simp
  have hm0 : 0 ≤ m := by omega
  have hm1 : m < 9007199254740992 := by unfold FinR at hf; omega
  have he0 : -150 ≤ e := by unfold FinR at hf; omega
  have he1 : e ≤ 150 := by unfold FinR at hf; omega
  have c1 : (w.alloc (.cells #[.bool g, .int .i64 m, .int .i64 e] 25)).cell? ⟨w.heap.size, 1, none⟩ = some (.int .i64 m) := by rw [cell_of_row _ _ _ _ _ _ A]; rfl
  have c2 : (w.alloc (.cells #[.bool g, .int .i64 m, .int .i64 e] 25)).cell? ⟨w.heap.size, 2, none⟩ = some (.int .i64 e) := by rw [cell_of_row _ _ _ _ _ _ A]; rfl
  have HM := hideT' hm
  have HF := hideT' hf
  have H1 : Hid (Tx ⟨#[49]⟩ 1) := ⟨by decide, by decide⟩
  have H0 : Hid (Tx ⟨#[48]⟩ 0) := ⟨by decide, by decide⟩
  clear hf
  by_cases hneg : 0 ≤ e
  · obtain ⟨J, hJ⟩ : ∃ J : Nat, e = (J : Int) := ⟨e.toNat, by omega⟩
    have HJ : Hid (vN n e = n * 2 ^ J ∧ vD e = 1) := ⟨by unfold vN; rw [hJ]; rfl, by unfold vD; rw [show (-e).toNat = 0 by omega]⟩
    have HJJ := hideT' hJ
    clear hJ hm
    go_enter Try.func45, Try.ntmps45
    generalize hw0 : w.alloc (.cells #[.bool g, .int .i64 m, .int .i64 e] 25) = w0 at A hB hws c1 c2
    go_wp2_with fail
    clear hw0 c1 c2
    refine held_begin (fun w' => RowAt w' w.heap.size 25 #[.bool g, .int .i64 m, .int .i64 e]) (by kernel_rfl) ?_
    have hS : RowAt w0.drew w.heap.size 25 #[.bool g, .int .i64 m, .int .i64 e] := A
    refine held_val 0 (some 9) rfl rfl (by kernel_rfl) (by kernel_rfl) (by kernel_rfl) noPanic_put rfl (.pointer (some ⟨w.heap.size, 1, none⟩)) (fun _ => by go_simp) hS ?_
    simp only [Act.put, List.setIfInBounds_toArray, List.set_cons_zero, List.set_cons_succ]
    refine held_valS 1 (some 10) rfl rfl (by kernel_rfl) (by kernel_rfl) (by kernel_rfl) noPanic_put rfl (.int .i64 m) (fun _ h => BL.run_cell1 _ 3 rfl ⟨w.heap.size, 1, none⟩ rfl (.int .i64 m) Try.underlying3 rfl (by rw [cell_of_row _ _ _ _ _ _ h]; rfl)) hS ?_
    simp only [Act.put, List.setIfInBounds_toArray, List.set_cons_zero, List.set_cons_succ]
    refine held_val 3 (some 12) rfl rfl (by kernel_rfl) (by kernel_rfl) (by kernel_rfl) noPanic_put rfl (.pointer (some ⟨w.heap.size, 2, none⟩)) (fun _ => by go_simp) hS ?_
    simp only [Act.put, List.setIfInBounds_toArray, List.set_cons_zero, List.set_cons_succ]
    refine held_valS 4 (some 13) rfl rfl (by kernel_rfl) (by kernel_rfl) (by kernel_rfl) noPanic_put rfl (.int .i64 e) (fun _ h => BL.run_cell1 _ 3 rfl ⟨w.heap.size, 2, none⟩ rfl (.int .i64 e) Try.underlying3 rfl (by rw [cell_of_row _ _ _ _ _ _ h]; rfl)) hS ?_
    simp only [Act.put, List.setIfInBounds_toArray, List.set_cons_zero, List.set_cons_succ]
    refine held_call 2 (some 11) (by kernel_rfl) rfl rfl rfl 79 #[.int .i64 m] (by go_simp) _ (numAllT n m w0.drew HM.out hm1) ?_
    rintro e1 w1 ⟨s1, rfl, hT1, hW1⟩
    have hs1 : w0.heap.size ≤ w1.heap.size := hW1.size
    have hS1 := RowAt.below hS hW1 (by show _ < w0.heap.size; omega)
    refine ⟨_, rfl, hS1, ?_⟩
    simp only [Act.put, List.setIfInBounds_toArray, List.set_cons_zero, List.set_cons_succ]
    refine held_call 5 (some 14) (by kernel_rfl) rfl rfl rfl 80 #[.int .i64 e] (by go_simp) _ (twoT J e w1 HJJ.out (by omega)) ?_
    rintro e2 w2 ⟨s2, rfl, hT2, hW2⟩
    have hs2 : w1.heap.size ≤ w2.heap.size := hW2.size
    have hS2 := RowAt.below hS1 hW2 (by omega)
    refine ⟨_, rfl, hS2, ?_⟩
    simp only [Act.put, List.setIfInBounds_toArray, List.set_cons_zero, List.set_cons_succ]
    refine held_call 6 (some 15) (by kernel_rfl) rfl rfl rfl 46 #[.string s1, .string s2] (by go_simp) _ (mulT w2 hT1 hT2 (by have := hT1.small (by have := HM.out; omega); omega) (hT2.two (by have := HJJ.out; omega))) ?_
    rintro e3 w3 ⟨s3, rfl, hT3, hW3⟩
    have hs3 : w2.heap.size ≤ w3.heap.size := hW3.size
    have hS3 := RowAt.below hS2 hW3 (by omega)
    have hB3 : Below w.heap.size w w3 := ((hB.drew.trans (hW1.mono (by show _ ≤ w0.heap.size; omega))).trans (hW2.mono (by omega))).trans (hW3.mono (by omega))
    have HA : Hid (PartsA n e (.returned (.tuple #[.string s3, .string ⟨#[49]⟩]))) := ⟨s3, _, rfl, _, _, hT3, H1.out, by omega, by rw [HJ.out.1, HJ.out.2], by rw [HJ.out.1]; exact Nat.le_refl _, by rw [HJ.out.2]; exact Nat.le_refl _⟩
    refine ⟨_, rfl, hS3, ?_⟩
    simp only [Act.put, List.setIfInBounds_toArray, List.set_cons_zero, List.set_cons_succ]
    refine held_assign 7 (some 2) (by kernel_rfl) rfl rfl _ rfl rfl (.string s3) rfl hS3 ?_
    simp only [Act.put, List.setIfInBounds_toArray, List.set_cons_zero, List.set_cons_succ]
    refine held_assign 8 (some 3) (by kernel_rfl) rfl rfl _ rfl rfl (.string ⟨#[49]⟩) rfl hS3 ?_
    simp only [Act.put, List.setIfInBounds_toArray, List.set_cons_zero, List.set_cons_succ]
    refine wpAnyH_done (by kernel_rfl) ?_ _
    refine NoPanic.normal ?_
    go_wp2
    go_ret2
    exact ⟨HA.out, hB3⟩
  · obtain ⟨J, hJ⟩ : ∃ J : Nat, -e = (J : Int) := ⟨(-e).toNat, by omega⟩
    have hwJ : IntKind.i64.wrap (J : Int) = (J : Int) := by rw [IntKind.wrap_i64]; omega
    have hJ1 : J ≤ 150 := by omega
    have HJ : Hid (vN n e = n ∧ vD e = 2 ^ J) := ⟨by unfold vN; rw [show e.toNat = 0 by omega, Nat.pow_zero, Nat.mul_one], by unfold vD; rw [hJ]; rfl⟩
    clear hm
    go_enter Try.func45, Try.ntmps45
    generalize hw0 : w.alloc (.cells #[.bool g, .int .i64 m, .int .i64 e] 25) = w0 at A hB hws c1 c2
    go_wp2_with fail
    clear hw0
    go_loopg [4, 5] J (fun gg v4 v5 wr => ∃ M : Int, gg ≤ J ∧ v4 = .int .i64 M ∧ v5 = .int .i64 (gg : Int) ∧ 0 ≤ M ∧ M < 9007199254740992 ∧ Hid (∃ k : Nat, M = (k : Int) ∧ n = k * 2 ^ (J - gg)) ∧ wr = w0)
    case atStart => exact ⟨m, Nat.le_refl _, rfl, rfl, hm0, hm1, ⟨n, HM.out, by rw [Nat.sub_self, Nat.pow_zero, Nat.mul_one]⟩, rfl⟩
    case round =>
      obtain ⟨M, hg, rfl, rfl, hM0, hM1, HK, rfl⟩ := hrel
      have hrem : M.tmod 2 = M % 2 := Int.tmod_eq_emod_of_nonneg hM0
      have hquo : M.tdiv 2 = M / 2 := Int.tdiv_eq_ediv_of_nonneg hM0
      by_cases hgo : 0 < (gk : Int) ∧ M % 2 = 0 ∧ 0 < M
      · obtain ⟨h1, h2, h3⟩ := hgo
        have HK2 : Hid (∃ k : Nat, M / 2 = (k : Int) ∧ n = k * 2 ^ (J - (gk - 1))) := by
          obtain ⟨k, e1, e2⟩ := HK.out
          refine ⟨k / 2, by omega, ?_⟩
          rw [show J - (gk - 1) = (J - gk) + 1 by omega, Nat.pow_succ, Nat.mul_comm (2 ^ (J - gk)) 2, ← Nat.mul_assoc, Nat.div_mul_cancel (Nat.dvd_of_mod_eq_zero (by omega))]
          exact e2
        go_wp2
        go_roundg (gk - 1)
        case measure => omega
        case rel => exact ⟨M / 2, by omega, rfl, by go_num, by omega, by omega, HK2, rfl⟩
      · have HGO := hideT' hgo
        by_cases hM : M = 0
        · subst hM
          have HA : Hid (PartsA n e (.returned (.tuple #[.string ⟨#[48]⟩, .string ⟨#[49]⟩]))) := by
            obtain ⟨k, e1, e2⟩ := HK.out
            have hn : n = 0 := by rw [e2, show k = 0 by omega, Nat.zero_mul]
            refine ⟨_, _, rfl, 0, 1, H0.out, H1.out, by omega, ?_, Nat.zero_le _, Nat.pos_of_ne_zero (vD_ne e)⟩
            rw [HJ.out.1, hn]; simp
          clear hgo
          by_cases h1 : 0 < (gk : Int)
          · go_wp2
            go_ret2
            exact ⟨HA.out, hB⟩
          · go_wp2
            go_ret2
            exact ⟨HA.out, hB⟩
        · have hMb : (M == 0) = false := by simpa using hM
          have hMp : 0 < M := by omega
          have HKK : Hid (∀ (s t : ByteArray), (∃ k : Nat, M = (k : Int) ∧ Tx s k) → Tx t (2 ^ gk) → PartsA n e (.returned (.tuple #[.string s, .string t]))) := by
            rintro s t ⟨k, e1, hs⟩ ht
            obtain ⟨k', e1', e2⟩ := HK.out
            obtain rfl : k = k' := by omega
            refine ⟨s, t, rfl, k, 2 ^ gk, hs, ht, by have := Nat.two_pow_pos gk; omega, ?_, ?_, ?_⟩
            · rw [HJ.out.1, HJ.out.2, e2, Nat.mul_assoc, ← Nat.pow_add, show J - gk + gk = J by omega]
            · rw [HJ.out.1, e2]; exact Nat.le_mul_of_pos_right _ (Nat.two_pow_pos _)
            · rw [HJ.out.2]; exact Nat.pow_le_pow_right (by decide) hg
          obtain ⟨k, hk⟩ : ∃ k : Nat, M = (k : Int) := ⟨M.toNat, by omega⟩
          have HKM := hideT' hk
          have HTW := hideT' (fun w' => twoT gk (gk : Int) w' rfl (by omega))
          have HNM := hideT' (fun w' => numAllT k M w' hk (by omega))
          clear hM hk
          by_cases h1 : 0 < (gk : Int)
          · have h2 : M % 2 = 1 := by have := HGO.out; omega
            clear hgo
            go_wp2_with fail
            refine (HNM.out _).mono ?_
            rintro e1 w1 ⟨s1, rfl, hT1, hW1⟩
            have hs1 := hW1.size
            go_wp2_with fail
            refine (HTW.out w1).mono ?_
            rintro e2 w2 ⟨s2, rfl, hT2, hW2⟩
            have HA := hideT' (HKK.out s1 s2 ⟨k, HKM.out, hT1⟩ hT2)
            have hB2 : Below w.heap.size w w2 := (hB.trans (hW1.mono (by omega))).trans (hW2.mono (by omega))
            clear hT1 hT2 hW1 hW2
            go_wp2
            go_ret2
            exact ⟨HA.out, hB2⟩
          · clear hgo
            go_wp2_with fail
            refine (HNM.out _).mono ?_
            rintro e1 w1 ⟨s1, rfl, hT1, hW1⟩
            have hs1 := hW1.size
            go_wp2_with fail
            refine (HTW.out w1).mono ?_
            rintro e2 w2 ⟨s2, rfl, hT2, hW2⟩
            have HA := hideT' (HKK.out s1 s2 ⟨k, HKM.out, hT1⟩ hT2)
            have hB2 : Below w.heap.size w w2 := (hB.trans (hW1.mono (by omega))).trans (hW2.mono (by omega))
            clear hT1 hT2 hW1 hW2
            go_wp2
            go_ret2
            exact ⟨HA.out, hB2⟩
end Go.Proofs.Ytoiegaggekgmjaa
