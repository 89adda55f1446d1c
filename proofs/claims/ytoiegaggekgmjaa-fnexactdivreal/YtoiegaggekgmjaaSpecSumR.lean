/-
  What AddReal, SubReal, MulReal and DivReal of spec answer.
-/
import Derived.Test.YtoiegaggekgmjaaPkRealNum
import Derived.Test.YtoiegaggekgmjaaRealParts
import Derived.Test.YtoiegaggekgmjaaPkSpecNear
import Derived.Test.YtoiegaggekgmjaaImplSum
import Derived.Test.YtoiegaggekgmjaaSpecReal
import Derived.Test.YtoiegaggekgmjaaPkSpecSub
namespace Go.Proofs.Ytoiegaggekgmjaa
open Go.RowKit
set_option linter.unusedVariables false

theorem Tx.two' {s : ByteArray} {x j : Nat} (h : Tx s x) (hx : x < 2 ^ j) (hj : j ≤ 1200) : s.size ≤ 600 := h.size (Nat.lt_trans hx (two_lt_tenS j 600 (by omega) (by decide))) (by omega)
theorem d48 : dval [48] = 0 := by decide
/-- What is known of the parts. -/
theorem parts_bd {n P Q : Nat} {e : Int} (hf : FinR n e) (h1 : P ≤ vN n e) (h2 : Q ≤ vD e) : P < 2 ^ 203 ∧ Q ≤ 2 ^ 150 := by
  have he : -150 ≤ e := by unfold FinR at hf; omega
  exact ⟨Nat.lt_of_le_of_lt h1 (vN_lt hf), Nat.le_trans h2 (vD_lt he)⟩
theorem parts_zero {n P Q : Nat} {e : Int} (h : P * vD e = vN n e * Q) (hQ : Q ≠ 0) : P = 0 ↔ n = 0 := by
  constructor
  · intro hp
    rw [hp, Nat.zero_mul] at h
    rcases Nat.mul_eq_zero.1 h.symm with h1 | h1
    · exact vN_zero.1 h1
    · exact absurd h1 hQ
  · intro hn
    rw [vN_zero.2 hn, Nat.zero_mul] at h
    rcases Nat.mul_eq_zero.1 h with h1 | h1
    · exact h1
    · exact absurd h1 (vD_ne e)

set_option maxHeartbeats 8000000 in
set_option maxRecDepth 100000 in
theorem lbSumT {n0 n1 : Nat} (g0 : Bool) (m0 e0 : Int) (g1 : Bool) (m1 e1 : Int) (w : World) (hn0 : m0 = (n0 : Int)) (hf0 : FinR n0 e0) (hn1 : m1 = (n1 : Int)) (hf1 : FinR n1 e1) :
    Calls Try.prog 41 #[.agg #[.bool g0, .int .i64 m0, .int .i64 e0], .agg #[.bool g1, .int .i64 m1, .int .i64 e1]] w fun e' w' => (∃ R : Nat, Near (sumZ g0 (vN n0 e0) (vD e0) g1 (vN n1 e1) (vD e1)).natAbs (vD e0 * vD e1) R ∧ e' = .returned (.agg #[.bool (sumNeg (sumZ g0 (vN n0 e0) (vD e0) g1 (vN n1 e1) (vD e1)) g0 g1), .int .i64 (manOf R : Nat), .int .i64 (expOf R)])) ∧ Below w.heap.size w w' := by
  have hz := zero_real.1
  have A : RowAt (((w.alloc (.cells #[.bool g0, .int .i64 m0, .int .i64 e0] 25)).alloc (.cells #[.bool g1, .int .i64 m1, .int .i64 e1] 25)).alloc (.cells #[.bool false, .int .i64 0, .int .i64 0] 25)) w.heap.size 25 #[.bool g0, .int .i64 m0, .int .i64 e0] := RowAt.old (RowAt.old (RowAt.new w 25 #[.bool g0, .int .i64 m0, .int .i64 e0]) _) _
  have B : RowAt (((w.alloc (.cells #[.bool g0, .int .i64 m0, .int .i64 e0] 25)).alloc (.cells #[.bool g1, .int .i64 m1, .int .i64 e1] 25)).alloc (.cells #[.bool false, .int .i64 0, .int .i64 0] 25)) (w.heap.size + 1) 25 #[.bool g1, .int .i64 m1, .int .i64 e1] := by
    have h := RowAt.new (w.alloc (.cells #[.bool g0, .int .i64 m0, .int .i64 e0] 25)) 25 #[.bool g1, .int .i64 m1, .int .i64 e1]
    rw [World.size_alloc] at h
    exact RowAt.old h _
  have C : RowAt (((w.alloc (.cells #[.bool g0, .int .i64 m0, .int .i64 e0] 25)).alloc (.cells #[.bool g1, .int .i64 m1, .int .i64 e1] 25)).alloc (.cells #[.bool false, .int .i64 0, .int .i64 0] 25)) (w.heap.size + 1 + 1) 25 #[.bool false, .int .i64 0, .int .i64 0] := by
    have h := RowAt.new ((w.alloc (.cells #[.bool g0, .int .i64 m0, .int .i64 e0] 25)).alloc (.cells #[.bool g1, .int .i64 m1, .int .i64 e1] 25)) 25 #[.bool false, .int .i64 0, .int .i64 0]
    simp only [World.size_alloc] at h
    exact h
  have hB : Below w.heap.size w (((w.alloc (.cells #[.bool g0, .int .i64 m0, .int .i64 e0] 25)).alloc (.cells #[.bool g1, .int .i64 m1, .int .i64 e1] 25)).alloc (.cells #[.bool false, .int .i64 0, .int .i64 0] 25)) := (((Below.refl _ _).alloc (Nat.le_refl _) _).alloc (by simp) _).alloc (by simp; omega) _
  have hws : (((w.alloc (.cells #[.bool g0, .int .i64 m0, .int .i64 e0] 25)).alloc (.cells #[.bool g1, .int .i64 m1, .int .i64 e1] 25)).alloc (.cells #[.bool false, .int .i64 0, .int .i64 0] 25)).heap.size = w.heap.size + 1 + 1 + 1 := by simp
  have HN0 := hide (And.intro hn0 hf0)
  have HNN1 := hide (And.intro hn1 hf1)
  clear hn0 hf0 hn1 hf1
  go_enter Try.func41, Try.ntmps41
  generalize hw0 : ((w.alloc (.cells #[.bool g0, .int .i64 m0, .int .i64 e0] 25)).alloc (.cells #[.bool g1, .int .i64 m1, .int .i64 e1] 25)).alloc (.cells #[.bool false, .int .i64 0, .int .i64 0] 25) = w0 at A B C hB hws
  go_wp2_with (with_reducible refine wpList_idO ?_; refine load_realU rfl _ rfl w.heap.size rfl g0 m0 e0 A ?_)
  clear hw0
  refine (partsT g0 m0 e0 w0 HN0.out.1 HN0.out.2).mono ?_
  rintro ea w3 ⟨⟨s3, t3, rfl, P0, Q0, hP0, hQ0, q0, x0, b0, d0⟩, hW3⟩
  have HP0 := hide (And.intro hP0 (And.intro hQ0 (And.intro q0 (And.intro x0 (parts_bd HN0.out.2 b0 d0)))))
  have hs3 := hW3.size
  have A3 := RowAt.below A hW3 (by omega)
  have B3 := RowAt.below B hW3 (by omega)
  have C3 := RowAt.below C hW3 (by omega)
  have hB3 : Below w.heap.size w w3 := hB.trans (hW3.mono (by omega))
  have hs3' : w.heap.size + 1 + 1 + 1 ≤ w3.heap.size := by omega
  clear A B C hB hW3 hP0 hQ0 q0 x0 b0 d0 hs3
  go_wp2_with (with_reducible refine wpList_idO ?_; refine load_realU rfl _ rfl (w.heap.size + 1) rfl g1 m1 e1 B3 ?_)
  refine (partsT g1 m1 e1 w3 HNN1.out.1 HNN1.out.2).mono ?_
  rintro eb w4 ⟨⟨s4, t4, rfl, P1, Q1, hP1, hQ1, q1, x1, b1, d1⟩, hW4⟩
  have HP1 := hide (And.intro hP1 (And.intro hQ1 (And.intro q1 (And.intro x1 (parts_bd HNN1.out.2 b1 d1)))))
  have hs4 := hW4.size
  have A4 := RowAt.below A3 hW4 (by omega)
  have B4 := RowAt.below B3 hW4 (by omega)
  have C4 := RowAt.below C3 hW4 (by omega)
  have hB4 : Below w.heap.size w w4 := hB3.trans (hW4.mono (by omega))
  have hs4' : w.heap.size + 1 + 1 + 1 ≤ w4.heap.size := by omega
  clear A3 B3 C3 hB3 hW4 hP1 hQ1 q1 x1 b1 d1 hs4 hs3'
  have z0 : s3.size ≤ 600 := HP0.out.1.two' HP0.out.2.2.2.2.1 (by omega)
  have y0 : t3.size ≤ 600 := HP0.out.2.1.two' (pow_in (j := 151) HP0.out.2.2.2.2.2 (by omega)) (by omega)
  have z1 : s4.size ≤ 600 := HP1.out.1.two' HP1.out.2.2.2.2.1 (by omega)
  have y1 : t4.size ≤ 600 := HP1.out.2.1.two' (pow_in (j := 151) HP1.out.2.2.2.2.2 (by omega)) (by omega)
  go_wp2_with fail
  refine held_begin (fun w' => RowAt w' (w.heap.size) 25 #[.bool g0, .int .i64 m0, .int .i64 e0] ∧ RowAt w' (w.heap.size + 1) 25 #[.bool g1, .int .i64 m1, .int .i64 e1]) (by kernel_rfl) ?_
  have hS : RowAt w4.drew (w.heap.size) 25 #[.bool g0, .int .i64 m0, .int .i64 e0] ∧ RowAt w4.drew (w.heap.size + 1) 25 #[.bool g1, .int .i64 m1, .int .i64 e1] := ⟨A4, B4⟩
  refine held_val 0 (some 22) rfl rfl (by kernel_rfl) (by kernel_rfl) (by kernel_rfl) noPanic_put rfl (.pointer (some ⟨w.heap.size, 0, none⟩)) (fun _ => by go_simp) hS ?_
  simp only [Act.put, List.setIfInBounds_toArray, List.set_cons_zero, List.set_cons_succ]
  refine held_valS 1 (some 23) rfl rfl (by kernel_rfl) (by kernel_rfl) (by kernel_rfl) noPanic_put rfl (.bool g0) (fun _ h => BL.run_cell1 _ 4 rfl ⟨w.heap.size, 0, none⟩ rfl (.bool g0) Try.underlying4 rfl (by rw [cell_of_row _ _ _ _ _ _ h.1]; rfl)) hS ?_
  simp only [Act.put, List.setIfInBounds_toArray, List.set_cons_zero, List.set_cons_succ]
  refine held_val 2 (some 24) rfl rfl (by kernel_rfl) (by kernel_rfl) (by kernel_rfl) noPanic_put rfl (.string s3) (fun _ => by go_simp) hS ?_
  simp only [Act.put, List.setIfInBounds_toArray, List.set_cons_zero, List.set_cons_succ]
  refine held_val 3 (some 25) rfl rfl (by kernel_rfl) (by kernel_rfl) (by kernel_rfl) noPanic_put rfl (.string t4) (fun _ => by go_simp) hS ?_
  simp only [Act.put, List.setIfInBounds_toArray, List.set_cons_zero, List.set_cons_succ]
  refine held_val 5 (some 27) rfl rfl (by kernel_rfl) (by kernel_rfl) (by kernel_rfl) noPanic_put rfl (.pointer (some ⟨w.heap.size + 1, 0, none⟩)) (fun _ => by go_simp) hS ?_
  simp only [Act.put, List.setIfInBounds_toArray, List.set_cons_zero, List.set_cons_succ]
  refine held_valS 6 (some 28) rfl rfl (by kernel_rfl) (by kernel_rfl) (by kernel_rfl) noPanic_put rfl (.bool g1) (fun _ h => BL.run_cell1 _ 4 rfl ⟨w.heap.size + 1, 0, none⟩ rfl (.bool g1) Try.underlying4 rfl (by rw [cell_of_row _ _ _ _ _ _ h.2]; rfl)) hS ?_
  simp only [Act.put, List.setIfInBounds_toArray, List.set_cons_zero, List.set_cons_succ]
  refine held_val 7 (some 29) rfl rfl (by kernel_rfl) (by kernel_rfl) (by kernel_rfl) noPanic_put rfl (.string s4) (fun _ => by go_simp) hS ?_
  simp only [Act.put, List.setIfInBounds_toArray, List.set_cons_zero, List.set_cons_succ]
  refine held_val 8 (some 30) rfl rfl (by kernel_rfl) (by kernel_rfl) (by kernel_rfl) noPanic_put rfl (.string t3) (fun _ => by go_simp) hS ?_
  simp only [Act.put, List.setIfInBounds_toArray, List.set_cons_zero, List.set_cons_succ]
  refine held_call 4 (some 26) (by kernel_rfl) rfl rfl rfl 46 #[.string s3, .string t4] (by go_simp) _ (mulT w4.drew HP0.out.1 HP1.out.2.1 z0 y1) ?_
  rintro ec w5 ⟨s5, rfl, hT5, hW5⟩
  have hs5 : w4.heap.size ≤ w5.heap.size := hW5.size
  have hS5 : RowAt w5 (w.heap.size) 25 #[.bool g0, .int .i64 m0, .int .i64 e0] ∧ RowAt w5 (w.heap.size + 1) 25 #[.bool g1, .int .i64 m1, .int .i64 e1] := ⟨RowAt.below hS.1 hW5 (by show _ < w4.heap.size; omega), RowAt.below hS.2 hW5 (by show _ < w4.heap.size; omega)⟩
  refine ⟨_, rfl, hS5, ?_⟩
  simp only [Act.put, List.setIfInBounds_toArray, List.set_cons_zero, List.set_cons_succ]
  refine held_call 9 (some 31) (by kernel_rfl) rfl rfl rfl 46 #[.string s4, .string t3] (by go_simp) _ (mulT w5 HP1.out.1 HP0.out.2.1 z1 y0) ?_
  rintro ed w6 ⟨s6, rfl, hT6, hW6⟩
  have hs6 : w5.heap.size ≤ w6.heap.size := hW6.size
  have hS6 : RowAt w6 (w.heap.size) 25 #[.bool g0, .int .i64 m0, .int .i64 e0] ∧ RowAt w6 (w.heap.size + 1) 25 #[.bool g1, .int .i64 m1, .int .i64 e1] := ⟨RowAt.below hS5.1 hW6 (by omega), RowAt.below hS5.2 hW6 (by omega)⟩
  have z5 : s5.size ≤ 1200 := hT5.prod (HP0.out.1.lt' z0) (HP1.out.2.1.lt' y1) rfl (by omega)
  have z6 : s6.size ≤ 1200 := hT6.prod (HP1.out.1.lt' z1) (HP0.out.2.1.lt' y0) rfl (by omega)
  refine ⟨_, rfl, hS6, ?_⟩
  simp only [Act.put, List.setIfInBounds_toArray, List.set_cons_zero, List.set_cons_succ]
  refine held_call 10 (some 32) (by kernel_rfl) rfl rfl rfl 68 #[.bool g0, .string s5, .bool g1, .string s6] (by go_simp) _ (l2Sum_any g0 g1 s5 s6 w6 (by omega) (by omega) hT5.1 hT6.1) ?_
  rintro ee w7 ⟨⟨h7, s7, rfl, hc7, hv7⟩, hW7⟩
  have hs7 : w6.heap.size ≤ w7.heap.size := hW7.size
  have hS7 : RowAt w7 (w.heap.size) 25 #[.bool g0, .int .i64 m0, .int .i64 e0] ∧ RowAt w7 (w.heap.size + 1) 25 #[.bool g1, .int .i64 m1, .int .i64 e1] := ⟨RowAt.below hS6.1 hW7 (by omega), RowAt.below hS6.2 hW7 (by omega)⟩
  have HZ : Hid (sg h7 (dval s7.data.toList) = sumZ g0 P0 Q0 g1 P1 Q1) := by
    unfold Hid sumZ
    rw [hv7, hT5.2, hT6.2, sg_mulN, sg_mulN]
  have HT7 : Hid (Tx s7 (sumZ g0 P0 Q0 g1 P1 Q1).natAbs) := by
    refine ⟨hc7, ?_⟩
    rw [← HZ.out]
    unfold sg
    cases h7 <;> simp
  have C7 := RowAt.below (RowAt.below (RowAt.below (w := w4.drew) C4 hW5 (by show _ < w4.heap.size; omega)) hW6 (by omega)) hW7 (by omega)
  have hB7 : Below w.heap.size w w7 := ((hB4.drew.trans (hW5.mono (by show _ ≤ w4.heap.size; omega))).trans (hW6.mono (by omega))).trans (hW7.mono (by omega))
  refine ⟨_, rfl, hS7, ?_⟩
  simp only [Act.put, List.setIfInBounds_toArray, List.set_cons_zero, List.set_cons_succ]
  refine held_val 11 (some 21) rfl rfl (by kernel_rfl) (by kernel_rfl) (by kernel_rfl) noPanic_put rfl (.tuple #[.bool h7, .string s7]) (fun _ => by go_simp) hS7 ?_
  simp only [Act.put, List.setIfInBounds_toArray, List.set_cons_zero, List.set_cons_succ]
  refine held_val 12 (some 33) rfl rfl (by kernel_rfl) (by kernel_rfl) (by kernel_rfl) noPanic_put rfl (.bool h7) (fun _ => by go_simp) hS7 ?_
  simp only [Act.put, List.setIfInBounds_toArray, List.set_cons_zero, List.set_cons_succ]
  refine held_val 13 (some 34) rfl rfl (by kernel_rfl) (by kernel_rfl) (by kernel_rfl) noPanic_put rfl (.string s7) (fun _ => by go_simp) hS7 ?_
  simp only [Act.put, List.setIfInBounds_toArray, List.set_cons_zero, List.set_cons_succ]
  refine held_assign 14 (some 9) (by kernel_rfl) rfl rfl _ rfl rfl (.bool h7) rfl hS7 ?_
  simp only [Act.put, List.setIfInBounds_toArray, List.set_cons_zero, List.set_cons_succ]
  refine held_assign 15 (some 10) (by kernel_rfl) rfl rfl _ rfl rfl (.string s7) rfl hS7 ?_
  simp only [Act.put, List.setIfInBounds_toArray, List.set_cons_zero, List.set_cons_succ]
  refine wpAnyH_done (by kernel_rfl) ?_ _
  refine NoPanic.normal ?_
  have hss := sum_sign g0 g1 HP0.out.2.2.2.1 HP1.out.2.2.2.1 (vD_ne e0) (vD_ne e1) HP0.out.2.2.1 HP1.out.2.2.1
  have hsa := sum_abs g0 g1 HP0.out.2.2.2.1 HP1.out.2.2.2.1
  have hlt := sum_lt (g := g0) (g' := g1) HP0.out.2.2.2.2.1 HP0.out.2.2.2.2.2 HP1.out.2.2.2.2.1 HP1.out.2.2.2.2.2
  obtain ⟨Z1, hZ1⟩ : ∃ x, x = sumZ g0 P0 Q0 g1 P1 Q1 := ⟨_, rfl⟩
  rw [← hZ1] at HZ HT7 hss hsa hlt
  have hz7 : s7.size ≤ 600 := HT7.out.two' hlt (by omega)
  have HH := hide (And.intro hss (And.intro hsa (pow_up (j := 1000) hlt (by omega))))
  have HQ : Hid (Q0 * Q1 ≠ 0) := Nat.mul_ne_zero HP0.out.2.2.1 HP1.out.2.2.1
  have hbb := HT7.out.bytes [48] (by decide)
  obtain ⟨A7, B7⟩ := hS7
  have k0 : w7.cell? ⟨w.heap.size, 0, none⟩ = some (.bool g0) := by rw [cell_of_row _ _ _ _ _ _ A7]; rfl
  have k1 : w7.cell? ⟨w.heap.size + 1, 0, none⟩ = some (.bool g1) := by rw [cell_of_row _ _ _ _ _ _ B7]; rfl
  have hs7' : w.heap.size + 1 + 1 + 1 ≤ w7.heap.size := by omega
  clear hS hS5 hS6 hW5 hW6 hW7 hT5 hT6 hc7 hv7 hss hsa hlt hZ1 A4 B4 C4 hB4 z5 z6
  by_cases hz0 : Z1 = 0
  · rw [decide_eq_true (show Z1.natAbs = dval [48] by rw [d48]; omega)] at hbb
    cases g0 with
    | true =>
      have HSG : Hid (sumNeg (sumZ true (vN n0 e0) (vD e0) g1 (vN n1 e1) (vD e1)) true g1 = g1) := by
        unfold Hid sumNeg
        have h1 := HH.out.1.2.1 hz0
        rw [h1]; simp
      clear hz0
      go_wp2_with fail
      refine (mulT w7 HP0.out.2.1 HP1.out.2.1 y0 y1).mono ?_
      rintro ef w8 ⟨s8, rfl, hT8, hW8⟩
      have hz8 : s8.size ≤ 600 := hT8.two' (mul_two (pow_in (j := 151) HP0.out.2.2.2.2.2 (by omega)) HP1.out.2.2.2.2.2) (by omega)
      have HT8 := hide hT8
      have hs8 := hW8.size
      have C8 := RowAt.below C7 hW8 (by omega)
      have hB8 : Below w.heap.size w w8 := hB7.trans (hW8.mono (by omega))
      clear C7 hB7 hW8 hT8
      go_wp2_with fail
      refine (lbOfT g1 w8 HT7.out HT8.out hz7 hz8 HH.out.2.2 HQ.out).mono ?_
      rintro eg w9 ⟨⟨R, v9, rfl, hR9, hv9⟩, hW9⟩
      subst hv9
      have C9 := RowAt.below C8 hW9 (by omega)
      have hB9 : Below w.heap.size w w9 := hB8.trans (hW9.mono (by omega))
      have HA : Hid (Near (sumZ true (vN n0 e0) (vD e0) g1 (vN n1 e1) (vD e1)).natAbs (vD e0 * vD e1) R ∧ (.returned (.agg #[.bool g1, .int .i64 (manOf R : Nat), .int .i64 (expOf R)]) : Ending) = .returned (.agg #[.bool (sumNeg (sumZ true (vN n0 e0) (vD e0) g1 (vN n1 e1) (vD e1)) true g1), .int .i64 (manOf R : Nat), .int .i64 (expOf R)])) :=
        ⟨hR9.move (Nat.pos_of_ne_zero HQ.out) (Nat.mul_pos (Nat.pos_of_ne_zero (vD_ne e0)) (Nat.pos_of_ne_zero (vD_ne e1))) HH.out.2.1, by rw [HSG.out]⟩
      clear C8 hB8 hW9 hR9
      go_wp2_with (with_reducible refine wpList_idO ?_; refine store_3 rfl 25 _ _ rfl rfl zero_real.2 (w.heap.size + 1 + 1) _ rfl (real_one _ _ _) rfl rfl _ rfl C9 ?_; intro wz hRz hgz hsz)
      exact bodyPost_ret (res_real Try.results41 _ _ (w.heap.size + 1 + 1) _ _ _ rfl hRz) rfl ⟨⟨R, HA.out.1, HA.out.2⟩, hB9.grown hgz hB9.size (by intro k hk; cases hk; omega)⟩
    | false =>
      have HSG : Hid (sumNeg (sumZ false (vN n0 e0) (vD e0) g1 (vN n1 e1) (vD e1)) false g1 = false) := by
        unfold Hid sumNeg
        have h1 := HH.out.1.2.1 hz0
        rw [h1]; simp
      clear hz0
      go_wp2_with fail
      refine (mulT w7 HP0.out.2.1 HP1.out.2.1 y0 y1).mono ?_
      rintro ef w8 ⟨s8, rfl, hT8, hW8⟩
      have hz8 : s8.size ≤ 600 := hT8.two' (mul_two (pow_in (j := 151) HP0.out.2.2.2.2.2 (by omega)) HP1.out.2.2.2.2.2) (by omega)
      have HT8 := hide hT8
      have hs8 := hW8.size
      have C8 := RowAt.below C7 hW8 (by omega)
      have hB8 : Below w.heap.size w w8 := hB7.trans (hW8.mono (by omega))
      clear C7 hB7 hW8 hT8
      go_wp2_with fail
      refine (lbOfT false w8 HT7.out HT8.out hz7 hz8 HH.out.2.2 HQ.out).mono ?_
      rintro eg w9 ⟨⟨R, v9, rfl, hR9, hv9⟩, hW9⟩
      subst hv9
      have C9 := RowAt.below C8 hW9 (by omega)
      have hB9 : Below w.heap.size w w9 := hB8.trans (hW9.mono (by omega))
      have HA : Hid (Near (sumZ false (vN n0 e0) (vD e0) g1 (vN n1 e1) (vD e1)).natAbs (vD e0 * vD e1) R ∧ (.returned (.agg #[.bool false, .int .i64 (manOf R : Nat), .int .i64 (expOf R)]) : Ending) = .returned (.agg #[.bool (sumNeg (sumZ false (vN n0 e0) (vD e0) g1 (vN n1 e1) (vD e1)) false g1), .int .i64 (manOf R : Nat), .int .i64 (expOf R)])) :=
        ⟨hR9.move (Nat.pos_of_ne_zero HQ.out) (Nat.mul_pos (Nat.pos_of_ne_zero (vD_ne e0)) (Nat.pos_of_ne_zero (vD_ne e1))) HH.out.2.1, by rw [HSG.out]⟩
      clear C8 hB8 hW9 hR9
      go_wp2_with (with_reducible refine wpList_idO ?_; refine store_3 rfl 25 _ _ rfl rfl zero_real.2 (w.heap.size + 1 + 1) _ rfl (real_one _ _ _) rfl rfl _ rfl C9 ?_; intro wz hRz hgz hsz)
      exact bodyPost_ret (res_real Try.results41 _ _ (w.heap.size + 1 + 1) _ _ _ rfl hRz) rfl ⟨⟨R, HA.out.1, HA.out.2⟩, hB9.grown hgz hB9.size (by intro k hk; cases hk; omega)⟩
  · rw [decide_eq_false (show ¬ Z1.natAbs = dval [48] by rw [d48]; omega)] at hbb
    have HSG : Hid (sumNeg (sumZ g0 (vN n0 e0) (vD e0) g1 (vN n1 e1) (vD e1)) g0 g1 = h7) := by
      unfold Hid sumNeg
      have h1 : ¬ (sumZ g0 (vN n0 e0) (vD e0) g1 (vN n1 e1) (vD e1)) = 0 := fun h => hz0 (HH.out.1.2.2 h)
      have h2 := HH.out.1.1
      have h3 := HZ.out
      unfold sg at h3
      rw [decide_eq_false h1, Bool.false_and, Bool.or_false]
      cases h7 with
      | true => exact decide_eq_true (h2.1 (by simp at h3; omega))
      | false => exact decide_eq_false (fun h => by have := h2.2 h; simp at h3; omega)
    clear hz0 k0 k1
    go_wp2_with fail
    refine (mulT w7 HP0.out.2.1 HP1.out.2.1 y0 y1).mono ?_
    rintro ef w8 ⟨s8, rfl, hT8, hW8⟩
    have hz8 : s8.size ≤ 600 := hT8.two' (mul_two (pow_in (j := 151) HP0.out.2.2.2.2.2 (by omega)) HP1.out.2.2.2.2.2) (by omega)
    have HT8 := hide hT8
    have hs8 := hW8.size
    have C8 := RowAt.below C7 hW8 (by omega)
    have hB8 : Below w.heap.size w w8 := hB7.trans (hW8.mono (by omega))
    clear C7 hB7 hW8 hT8
    go_wp2_with fail
    refine (lbOfT h7 w8 HT7.out HT8.out hz7 hz8 HH.out.2.2 HQ.out).mono ?_
    rintro eg w9 ⟨⟨R, v9, rfl, hR9, hv9⟩, hW9⟩
    subst hv9
    have C9 := RowAt.below C8 hW9 (by omega)
    have hB9 : Below w.heap.size w w9 := hB8.trans (hW9.mono (by omega))
    have HA : Hid (Near (sumZ g0 (vN n0 e0) (vD e0) g1 (vN n1 e1) (vD e1)).natAbs (vD e0 * vD e1) R ∧ (.returned (.agg #[.bool h7, .int .i64 (manOf R : Nat), .int .i64 (expOf R)]) : Ending) = .returned (.agg #[.bool (sumNeg (sumZ g0 (vN n0 e0) (vD e0) g1 (vN n1 e1) (vD e1)) g0 g1), .int .i64 (manOf R : Nat), .int .i64 (expOf R)])) :=
      ⟨hR9.move (Nat.pos_of_ne_zero HQ.out) (Nat.mul_pos (Nat.pos_of_ne_zero (vD_ne e0)) (Nat.pos_of_ne_zero (vD_ne e1))) HH.out.2.1, by rw [HSG.out]⟩
    clear C8 hB8 hW9 hR9
    go_wp2_with (with_reducible refine wpList_idO ?_; refine store_3 rfl 25 _ _ rfl rfl zero_real.2 (w.heap.size + 1 + 1) _ rfl (real_one _ _ _) rfl rfl _ rfl C9 ?_; intro wz hRz hgz hsz)
    exact bodyPost_ret (res_real Try.results41 _ _ (w.heap.size + 1 + 1) _ _ _ rfl hRz) rfl ⟨⟨R, HA.out.1, HA.out.2⟩, hB9.grown hgz hB9.size (by intro k hk; cases hk; omega)⟩

set_option maxHeartbeats 8000000 in
set_option maxRecDepth 100000 in
theorem specAddReal_any (g0 : Bool) (m0 e0 : Int) (g1 : Bool) (m1 e1 : Int) (w : World) :
    Calls Try.prog 21 #[.agg #[.bool g0, .int .i64 m0, .int .i64 e0], .agg #[.bool g1, .int .i64 m1, .int .i64 e1]] w fun e' w' => AnsS (finB m0 e0 && finB m1 e1) (sumNeg (sumZ g0 (vN m0.toNat e0) (vD e0) g1 (vN m1.toNat e1) (vD e1)) g0 g1) (sumZ g0 (vN m0.toNat e0) (vD e0) g1 (vN m1.toNat e1) (vD e1)).natAbs (vD e0 * vD e1) e' ∧ Below w.heap.size w w' := by
  have hz := zero_real.1
  have A : RowAt (((w.alloc (.cells #[.bool g0, .int .i64 m0, .int .i64 e0] 25)).alloc (.cells #[.bool g1, .int .i64 m1, .int .i64 e1] 25)).alloc (.cells #[.bool false, .int .i64 0, .int .i64 0] 25)) w.heap.size 25 #[.bool g0, .int .i64 m0, .int .i64 e0] := RowAt.old (RowAt.old (RowAt.new w 25 #[.bool g0, .int .i64 m0, .int .i64 e0]) _) _
  have B : RowAt (((w.alloc (.cells #[.bool g0, .int .i64 m0, .int .i64 e0] 25)).alloc (.cells #[.bool g1, .int .i64 m1, .int .i64 e1] 25)).alloc (.cells #[.bool false, .int .i64 0, .int .i64 0] 25)) (w.heap.size + 1) 25 #[.bool g1, .int .i64 m1, .int .i64 e1] := by
    have h := RowAt.new (w.alloc (.cells #[.bool g0, .int .i64 m0, .int .i64 e0] 25)) 25 #[.bool g1, .int .i64 m1, .int .i64 e1]
    rw [World.size_alloc] at h
    exact RowAt.old h _
  have C : RowAt (((w.alloc (.cells #[.bool g0, .int .i64 m0, .int .i64 e0] 25)).alloc (.cells #[.bool g1, .int .i64 m1, .int .i64 e1] 25)).alloc (.cells #[.bool false, .int .i64 0, .int .i64 0] 25)) (w.heap.size + 1 + 1) 25 #[.bool false, .int .i64 0, .int .i64 0] := by
    have h := RowAt.new ((w.alloc (.cells #[.bool g0, .int .i64 m0, .int .i64 e0] 25)).alloc (.cells #[.bool g1, .int .i64 m1, .int .i64 e1] 25)) 25 #[.bool false, .int .i64 0, .int .i64 0]
    simp only [World.size_alloc] at h
    exact h
  have hB : Below w.heap.size w (((w.alloc (.cells #[.bool g0, .int .i64 m0, .int .i64 e0] 25)).alloc (.cells #[.bool g1, .int .i64 m1, .int .i64 e1] 25)).alloc (.cells #[.bool false, .int .i64 0, .int .i64 0] 25)) := (((Below.refl _ _).alloc (Nat.le_refl _) _).alloc (by simp) _).alloc (by simp; omega) _
  have hws : (((w.alloc (.cells #[.bool g0, .int .i64 m0, .int .i64 e0] 25)).alloc (.cells #[.bool g1, .int .i64 m1, .int .i64 e1] 25)).alloc (.cells #[.bool false, .int .i64 0, .int .i64 0] 25)).heap.size = w.heap.size + 1 + 1 + 1 := by simp
  have HF0 := hide (fun w' => lbFinite_any g0 m0 e0 w')
  have HF1 := hide (fun w' => lbFinite_any g1 m1 e1 w')
  obtain ⟨f0, hf0⟩ : ∃ f, f = finB m0 e0 := ⟨_, rfl⟩
  obtain ⟨f1, hf1⟩ : ∃ f, f = finB m1 e1 := ⟨_, rfl⟩
  rw [← hf0] at HF0 ⊢
  rw [← hf1] at HF1 ⊢
  have HH := hide (And.intro hf0 hf1)
  obtain ⟨neg, hneg⟩ : ∃ x, x = (sumNeg (sumZ g0 (vN m0.toNat e0) (vD e0) g1 (vN m1.toNat e1) (vD e1)) g0 g1) := ⟨_, rfl⟩
  obtain ⟨NN, hNN⟩ : ∃ x, x = (sumZ g0 (vN m0.toNat e0) (vD e0) g1 (vN m1.toNat e1) (vD e1)).natAbs := ⟨_, rfl⟩
  obtain ⟨DD, hDD⟩ : ∃ x, x = (vD e0 * vD e1) := ⟨_, rfl⟩
  rw [← hneg, ← hNN, ← hDD]
  have HND := hide (And.intro hneg (And.intro hNN hDD))
  clear hf0 hf1 hneg hNN hDD
  go_enter Try.func21, Try.ntmps21
  generalize hw0 : ((w.alloc (.cells #[.bool g0, .int .i64 m0, .int .i64 e0] 25)).alloc (.cells #[.bool g1, .int .i64 m1, .int .i64 e1] 25)).alloc (.cells #[.bool false, .int .i64 0, .int .i64 0] 25) = w0 at A B C hB hws
  go_wp2_with (with_reducible refine wpList_idO ?_; refine load_realU rfl _ rfl w.heap.size rfl g0 m0 e0 A ?_)
  refine (HF0.out w0).mono ?_
  rintro e w1 ⟨rfl, hW1⟩
  have hs1 := hW1.size
  have A1 := RowAt.below A hW1 (by omega)
  have B1 := RowAt.below B hW1 (by omega)
  have C1 := RowAt.below C hW1 (by omega)
  have hB1 : Below w.heap.size w w1 := hB.trans (hW1.mono (by omega))
  clear hw0 A B C hB hW1
  cases f0 with
  | false =>
    have HA : Hid (AnsS (false && f1) neg NN DD (.returned (.tuple #[.agg #[.bool false, .int .i64 0, .int .i64 0], .bool false]))) := .inl ⟨by simp, rfl⟩
    go_wp2_with (with_reducible refine wpList_idO ?_; refine store_3 rfl 25 _ _ rfl rfl zero_real.2 (w.heap.size + 1 + 1) _ rfl (real_one _ _ _) rfl rfl _ rfl C1 ?_; intro w2 hR2 hg2 hs2)
    exact bodyPost_ret (res_real_tmp Try.results21 _ _ (w.heap.size + 1 + 1) _ _ _ _ rfl rfl hR2) rfl ⟨HA.out, hB1.grown hg2 hB1.size (by intro k hk; cases hk; omega)⟩
  | true =>
    have c10 : w1.cell? ⟨w.heap.size + 1, 0, none⟩ = some (.bool g1) := by rw [cell_of_row _ _ _ _ _ _ B1]; rfl
    have c11 : w1.cell? ⟨w.heap.size + 1, 1, none⟩ = some (.int .i64 m1) := by rw [cell_of_row _ _ _ _ _ _ B1]; rfl
    have c12 : w1.cell? ⟨w.heap.size + 1, 2, none⟩ = some (.int .i64 e1) := by rw [cell_of_row _ _ _ _ _ _ B1]; rfl
    go_wp2_with fail
    refine (HF1.out w1).mono ?_
    rintro e w2 ⟨rfl, hW2⟩
    have hs2 := hW2.size
    have A2 := RowAt.below A1 hW2 (by omega)
    have B2 := RowAt.below B1 hW2 (by omega)
    have C2 := RowAt.below C1 hW2 (by omega)
    have hB2 : Below w.heap.size w w2 := hB1.trans (hW2.mono (by omega))
    have hs2' : w.heap.size + 1 + 1 + 1 ≤ w2.heap.size := by omega
    clear A1 B1 C1 hB1 hW2 c10 c11 c12 hs1 hs2
    cases f1 with
    | false =>
      have HA : Hid (AnsS (true && false) neg NN DD (.returned (.tuple #[.agg #[.bool false, .int .i64 0, .int .i64 0], .bool false]))) := .inl ⟨by simp, rfl⟩
      go_wp2_with (with_reducible refine wpList_idO ?_; refine store_3 rfl 25 _ _ rfl rfl zero_real.2 (w.heap.size + 1 + 1) _ rfl (real_one _ _ _) rfl rfl _ rfl C2 ?_; intro w3 hR3 hg3 hs3)
      exact bodyPost_ret (res_real_tmp Try.results21 _ _ (w.heap.size + 1 + 1) _ _ _ _ rfl rfl hR3) rfl ⟨HA.out, hB2.grown hg3 hB2.size (by intro k hk; cases hk; omega)⟩
    | true =>
      obtain ⟨n0, hn0, hF0⟩ := (finB_iff m0 e0).1 HH.out.1.symm
      obtain ⟨n1, hn1, hF1⟩ := (finB_iff m1 e1).1 HH.out.2.symm
      have ht0 : m0.toNat = n0 := by omega
      have ht1 : m1.toNat = n1 := by omega
      rw [ht0, ht1] at HND
      have HFT : Hid ((true && true) = true) := rfl
      have HN0 := hide (And.intro hn0 hF0)
      have HNN1 := hide (And.intro hn1 hF1)
      clear hn0 hn1 hF0 hF1 ht0 ht1
      have k0 : w2.cell? ⟨w.heap.size, 0, none⟩ = some (.bool g0) := by rw [cell_of_row _ _ _ _ _ _ A2]; rfl
      have k1 : w2.cell? ⟨w.heap.size, 1, none⟩ = some (.int .i64 m0) := by rw [cell_of_row _ _ _ _ _ _ A2]; rfl
      have k2 : w2.cell? ⟨w.heap.size, 2, none⟩ = some (.int .i64 e0) := by rw [cell_of_row _ _ _ _ _ _ A2]; rfl
      have k3 : w2.cell? ⟨w.heap.size + 1, 0, none⟩ = some (.bool g1) := by rw [cell_of_row _ _ _ _ _ _ B2]; rfl
      have k4 : w2.cell? ⟨w.heap.size + 1, 1, none⟩ = some (.int .i64 m1) := by rw [cell_of_row _ _ _ _ _ _ B2]; rfl
      have k5 : w2.cell? ⟨w.heap.size + 1, 2, none⟩ = some (.int .i64 e1) := by rw [cell_of_row _ _ _ _ _ _ B2]; rfl
      go_wp2_with fail
      refine (lbSumT g0 m0 e0 g1 m1 e1 w2 HN0.out.1 HN0.out.2 HNN1.out.1 HNN1.out.2).mono ?_
      rintro eb w4 ⟨⟨R, hR, rfl⟩, hW4⟩
      have HR := hide hR
      have C4 := RowAt.below C2 hW4 (by omega)
      have hB4 : Below w.heap.size w w4 := hB2.trans (hW4.mono (by omega))
      clear A2 B2 C2 hB2 hW4 hR k0 k1 k2 k3 k4 k5
      go_wp2_with (with_reducible refine wpList_idO ?_; refine store_3 rfl 25 _ _ rfl rfl zero_real.2 (w.heap.size + 1 + 1) _ rfl (real_one _ _ _) rfl rfl _ rfl C4 ?_; intro wz hRz hgz hsz)
      refine bodyPost_ret (res_real_tmp Try.results21 _ _ (w.heap.size + 1 + 1) _ _ _ _ rfl rfl hRz) rfl ⟨.inr ⟨HFT.out, R, ?_, ?_⟩, hB4.grown hgz hB4.size (by intro k hk; cases hk; omega)⟩
      · rw [HND.out.2.1, HND.out.2.2]; exact HR.out
      · rw [HND.out.1]; rfl

set_option maxHeartbeats 8000000 in
set_option maxRecDepth 100000 in
theorem specSubReal_any (g0 : Bool) (m0 e0 : Int) (g1 : Bool) (m1 e1 : Int) (w : World) :
    Calls Try.prog 23 #[.agg #[.bool g0, .int .i64 m0, .int .i64 e0], .agg #[.bool g1, .int .i64 m1, .int .i64 e1]] w fun e' w' => AnsS (finB m0 e0 && finB m1 e1) (sumNeg (sumZ g0 (vN m0.toNat e0) (vD e0) (!g1) (vN m1.toNat e1) (vD e1)) g0 (!g1)) (sumZ g0 (vN m0.toNat e0) (vD e0) (!g1) (vN m1.toNat e1) (vD e1)).natAbs (vD e0 * vD e1) e' ∧ Below w.heap.size w w' := by
  have hz := zero_real.1
  have A : RowAt (((w.alloc (.cells #[.bool g0, .int .i64 m0, .int .i64 e0] 25)).alloc (.cells #[.bool g1, .int .i64 m1, .int .i64 e1] 25)).alloc (.cells #[.bool false, .int .i64 0, .int .i64 0] 25)) w.heap.size 25 #[.bool g0, .int .i64 m0, .int .i64 e0] := RowAt.old (RowAt.old (RowAt.new w 25 #[.bool g0, .int .i64 m0, .int .i64 e0]) _) _
  have B : RowAt (((w.alloc (.cells #[.bool g0, .int .i64 m0, .int .i64 e0] 25)).alloc (.cells #[.bool g1, .int .i64 m1, .int .i64 e1] 25)).alloc (.cells #[.bool false, .int .i64 0, .int .i64 0] 25)) (w.heap.size + 1) 25 #[.bool g1, .int .i64 m1, .int .i64 e1] := by
    have h := RowAt.new (w.alloc (.cells #[.bool g0, .int .i64 m0, .int .i64 e0] 25)) 25 #[.bool g1, .int .i64 m1, .int .i64 e1]
    rw [World.size_alloc] at h
    exact RowAt.old h _
  have C : RowAt (((w.alloc (.cells #[.bool g0, .int .i64 m0, .int .i64 e0] 25)).alloc (.cells #[.bool g1, .int .i64 m1, .int .i64 e1] 25)).alloc (.cells #[.bool false, .int .i64 0, .int .i64 0] 25)) (w.heap.size + 1 + 1) 25 #[.bool false, .int .i64 0, .int .i64 0] := by
    have h := RowAt.new ((w.alloc (.cells #[.bool g0, .int .i64 m0, .int .i64 e0] 25)).alloc (.cells #[.bool g1, .int .i64 m1, .int .i64 e1] 25)) 25 #[.bool false, .int .i64 0, .int .i64 0]
    simp only [World.size_alloc] at h
    exact h
  have hB : Below w.heap.size w (((w.alloc (.cells #[.bool g0, .int .i64 m0, .int .i64 e0] 25)).alloc (.cells #[.bool g1, .int .i64 m1, .int .i64 e1] 25)).alloc (.cells #[.bool false, .int .i64 0, .int .i64 0] 25)) := (((Below.refl _ _).alloc (Nat.le_refl _) _).alloc (by simp) _).alloc (by simp; omega) _
  have hws : (((w.alloc (.cells #[.bool g0, .int .i64 m0, .int .i64 e0] 25)).alloc (.cells #[.bool g1, .int .i64 m1, .int .i64 e1] 25)).alloc (.cells #[.bool false, .int .i64 0, .int .i64 0] 25)).heap.size = w.heap.size + 1 + 1 + 1 := by simp
  have HF0 := hide (fun w' => lbFinite_any g0 m0 e0 w')
  have HF1 := hide (fun w' => lbFinite_any g1 m1 e1 w')
  obtain ⟨f0, hf0⟩ : ∃ f, f = finB m0 e0 := ⟨_, rfl⟩
  obtain ⟨f1, hf1⟩ : ∃ f, f = finB m1 e1 := ⟨_, rfl⟩
  rw [← hf0] at HF0 ⊢
  rw [← hf1] at HF1 ⊢
  have HH := hide (And.intro hf0 hf1)
  obtain ⟨neg, hneg⟩ : ∃ x, x = (sumNeg (sumZ g0 (vN m0.toNat e0) (vD e0) (!g1) (vN m1.toNat e1) (vD e1)) g0 (!g1)) := ⟨_, rfl⟩
  obtain ⟨NN, hNN⟩ : ∃ x, x = (sumZ g0 (vN m0.toNat e0) (vD e0) (!g1) (vN m1.toNat e1) (vD e1)).natAbs := ⟨_, rfl⟩
  obtain ⟨DD, hDD⟩ : ∃ x, x = (vD e0 * vD e1) := ⟨_, rfl⟩
  rw [← hneg, ← hNN, ← hDD]
  have HND := hide (And.intro hneg (And.intro hNN hDD))
  clear hf0 hf1 hneg hNN hDD
  go_enter Try.func23, Try.ntmps23
  generalize hw0 : ((w.alloc (.cells #[.bool g0, .int .i64 m0, .int .i64 e0] 25)).alloc (.cells #[.bool g1, .int .i64 m1, .int .i64 e1] 25)).alloc (.cells #[.bool false, .int .i64 0, .int .i64 0] 25) = w0 at A B C hB hws
  go_wp2_with (with_reducible refine wpList_idO ?_; refine load_realU rfl _ rfl w.heap.size rfl g0 m0 e0 A ?_)
  refine (HF0.out w0).mono ?_
  rintro e w1 ⟨rfl, hW1⟩
  have hs1 := hW1.size
  have A1 := RowAt.below A hW1 (by omega)
  have B1 := RowAt.below B hW1 (by omega)
  have C1 := RowAt.below C hW1 (by omega)
  have hB1 : Below w.heap.size w w1 := hB.trans (hW1.mono (by omega))
  clear hw0 A B C hB hW1
  cases f0 with
  | false =>
    have HA : Hid (AnsS (false && f1) neg NN DD (.returned (.tuple #[.agg #[.bool false, .int .i64 0, .int .i64 0], .bool false]))) := .inl ⟨by simp, rfl⟩
    go_wp2_with (with_reducible refine wpList_idO ?_; refine store_3 rfl 25 _ _ rfl rfl zero_real.2 (w.heap.size + 1 + 1) _ rfl (real_one _ _ _) rfl rfl _ rfl C1 ?_; intro w2 hR2 hg2 hs2)
    exact bodyPost_ret (res_real_tmp Try.results23 _ _ (w.heap.size + 1 + 1) _ _ _ _ rfl rfl hR2) rfl ⟨HA.out, hB1.grown hg2 hB1.size (by intro k hk; cases hk; omega)⟩
  | true =>
    have c10 : w1.cell? ⟨w.heap.size + 1, 0, none⟩ = some (.bool g1) := by rw [cell_of_row _ _ _ _ _ _ B1]; rfl
    have c11 : w1.cell? ⟨w.heap.size + 1, 1, none⟩ = some (.int .i64 m1) := by rw [cell_of_row _ _ _ _ _ _ B1]; rfl
    have c12 : w1.cell? ⟨w.heap.size + 1, 2, none⟩ = some (.int .i64 e1) := by rw [cell_of_row _ _ _ _ _ _ B1]; rfl
    go_wp2_with fail
    refine (HF1.out w1).mono ?_
    rintro e w2 ⟨rfl, hW2⟩
    have hs2 := hW2.size
    have A2 := RowAt.below A1 hW2 (by omega)
    have B2 := RowAt.below B1 hW2 (by omega)
    have C2 := RowAt.below C1 hW2 (by omega)
    have hB2 : Below w.heap.size w w2 := hB1.trans (hW2.mono (by omega))
    have hs2' : w.heap.size + 1 + 1 + 1 ≤ w2.heap.size := by omega
    clear A1 B1 C1 hB1 hW2 c10 c11 c12 hs1 hs2
    cases f1 with
    | false =>
      have HA : Hid (AnsS (true && false) neg NN DD (.returned (.tuple #[.agg #[.bool false, .int .i64 0, .int .i64 0], .bool false]))) := .inl ⟨by simp, rfl⟩
      go_wp2_with (with_reducible refine wpList_idO ?_; refine store_3 rfl 25 _ _ rfl rfl zero_real.2 (w.heap.size + 1 + 1) _ rfl (real_one _ _ _) rfl rfl _ rfl C2 ?_; intro w3 hR3 hg3 hs3)
      exact bodyPost_ret (res_real_tmp Try.results23 _ _ (w.heap.size + 1 + 1) _ _ _ _ rfl rfl hR3) rfl ⟨HA.out, hB2.grown hg3 hB2.size (by intro k hk; cases hk; omega)⟩
    | true =>
      obtain ⟨n0, hn0, hF0⟩ := (finB_iff m0 e0).1 HH.out.1.symm
      obtain ⟨n1, hn1, hF1⟩ := (finB_iff m1 e1).1 HH.out.2.symm
      have ht0 : m0.toNat = n0 := by omega
      have ht1 : m1.toNat = n1 := by omega
      rw [ht0, ht1] at HND
      have HFT : Hid ((true && true) = true) := rfl
      have HN0 := hide (And.intro hn0 hF0)
      have HNN1 := hide (And.intro hn1 hF1)
      clear hn0 hn1 hF0 hF1 ht0 ht1
      have k0 : w2.cell? ⟨w.heap.size, 0, none⟩ = some (.bool g0) := by rw [cell_of_row _ _ _ _ _ _ A2]; rfl
      have k1 : w2.cell? ⟨w.heap.size, 1, none⟩ = some (.int .i64 m0) := by rw [cell_of_row _ _ _ _ _ _ A2]; rfl
      have k2 : w2.cell? ⟨w.heap.size, 2, none⟩ = some (.int .i64 e0) := by rw [cell_of_row _ _ _ _ _ _ A2]; rfl
      have k3 : w2.cell? ⟨w.heap.size + 1, 0, none⟩ = some (.bool g1) := by rw [cell_of_row _ _ _ _ _ _ B2]; rfl
      have k4 : w2.cell? ⟨w.heap.size + 1, 1, none⟩ = some (.int .i64 m1) := by rw [cell_of_row _ _ _ _ _ _ B2]; rfl
      have k5 : w2.cell? ⟨w.heap.size + 1, 2, none⟩ = some (.int .i64 e1) := by rw [cell_of_row _ _ _ _ _ _ B2]; rfl
      have kf : w2.frozen? ⟨w.heap.size + 1, 0, none⟩ = false := frozen_of_row w2 _ _ _ _ B2
      go_wp2_with fail
      refine (lbSumT g0 m0 e0 (!g1) m1 e1 _ HN0.out.1 HN0.out.2 HNN1.out.1 HNN1.out.2).mono ?_
      rintro eb w4 ⟨⟨R, hR, rfl⟩, hW4⟩
      have HR := hide hR
      have C4 := RowAt.below (RowAt.set (k := w.heap.size + 1) (o := 0) (v := .bool (!g1)) C2 (by omega)) hW4 (by simp; omega)
      have hB4 : Below w.heap.size w w4 := (hB2.setCell (p := ⟨w.heap.size + 1, 0, none⟩) (by simp) _).trans (hW4.mono (by simp; omega))
      clear A2 B2 C2 hB2 hW4 hR k0 k1 k2 k3 k4 k5 kf
      go_wp2_with (with_reducible refine wpList_idO ?_; refine store_3 rfl 25 _ _ rfl rfl zero_real.2 (w.heap.size + 1 + 1) _ rfl (real_one _ _ _) rfl rfl _ rfl C4 ?_; intro wz hRz hgz hsz)
      refine bodyPost_ret (res_real_tmp Try.results23 _ _ (w.heap.size + 1 + 1) _ _ _ _ rfl rfl hRz) rfl ⟨.inr ⟨HFT.out, R, ?_, ?_⟩, hB4.grown hgz hB4.size (by intro k hk; cases hk; omega)⟩
      · rw [HND.out.2.1, HND.out.2.2]; exact HR.out
      · rw [HND.out.1]; rfl

set_option maxHeartbeats 8000000 in
set_option maxRecDepth 100000 in
theorem specMulReal_any (g0 : Bool) (m0 e0 : Int) (g1 : Bool) (m1 e1 : Int) (w : World) :
    Calls Try.prog 25 #[.agg #[.bool g0, .int .i64 m0, .int .i64 e0], .agg #[.bool g1, .int .i64 m1, .int .i64 e1]] w fun e' w' => AnsS (finB m0 e0 && finB m1 e1) (g0 != g1) (vN m0.toNat e0 * vN m1.toNat e1) (vD e0 * vD e1) e' ∧ Below w.heap.size w w' := by
  have hz := zero_real.1
  have A : RowAt (((w.alloc (.cells #[.bool g0, .int .i64 m0, .int .i64 e0] 25)).alloc (.cells #[.bool g1, .int .i64 m1, .int .i64 e1] 25)).alloc (.cells #[.bool false, .int .i64 0, .int .i64 0] 25)) w.heap.size 25 #[.bool g0, .int .i64 m0, .int .i64 e0] := RowAt.old (RowAt.old (RowAt.new w 25 #[.bool g0, .int .i64 m0, .int .i64 e0]) _) _
  have B : RowAt (((w.alloc (.cells #[.bool g0, .int .i64 m0, .int .i64 e0] 25)).alloc (.cells #[.bool g1, .int .i64 m1, .int .i64 e1] 25)).alloc (.cells #[.bool false, .int .i64 0, .int .i64 0] 25)) (w.heap.size + 1) 25 #[.bool g1, .int .i64 m1, .int .i64 e1] := by
    have h := RowAt.new (w.alloc (.cells #[.bool g0, .int .i64 m0, .int .i64 e0] 25)) 25 #[.bool g1, .int .i64 m1, .int .i64 e1]
    rw [World.size_alloc] at h
    exact RowAt.old h _
  have C : RowAt (((w.alloc (.cells #[.bool g0, .int .i64 m0, .int .i64 e0] 25)).alloc (.cells #[.bool g1, .int .i64 m1, .int .i64 e1] 25)).alloc (.cells #[.bool false, .int .i64 0, .int .i64 0] 25)) (w.heap.size + 1 + 1) 25 #[.bool false, .int .i64 0, .int .i64 0] := by
    have h := RowAt.new ((w.alloc (.cells #[.bool g0, .int .i64 m0, .int .i64 e0] 25)).alloc (.cells #[.bool g1, .int .i64 m1, .int .i64 e1] 25)) 25 #[.bool false, .int .i64 0, .int .i64 0]
    simp only [World.size_alloc] at h
    exact h
  have hB : Below w.heap.size w (((w.alloc (.cells #[.bool g0, .int .i64 m0, .int .i64 e0] 25)).alloc (.cells #[.bool g1, .int .i64 m1, .int .i64 e1] 25)).alloc (.cells #[.bool false, .int .i64 0, .int .i64 0] 25)) := (((Below.refl _ _).alloc (Nat.le_refl _) _).alloc (by simp) _).alloc (by simp; omega) _
  have hws : (((w.alloc (.cells #[.bool g0, .int .i64 m0, .int .i64 e0] 25)).alloc (.cells #[.bool g1, .int .i64 m1, .int .i64 e1] 25)).alloc (.cells #[.bool false, .int .i64 0, .int .i64 0] 25)).heap.size = w.heap.size + 1 + 1 + 1 := by simp
  have HF0 := hide (fun w' => lbFinite_any g0 m0 e0 w')
  have HF1 := hide (fun w' => lbFinite_any g1 m1 e1 w')
  obtain ⟨f0, hf0⟩ : ∃ f, f = finB m0 e0 := ⟨_, rfl⟩
  obtain ⟨f1, hf1⟩ : ∃ f, f = finB m1 e1 := ⟨_, rfl⟩
  rw [← hf0] at HF0 ⊢
  rw [← hf1] at HF1 ⊢
  have HH := hide (And.intro hf0 hf1)
  obtain ⟨neg, hneg⟩ : ∃ x, x = (g0 != g1) := ⟨_, rfl⟩
  obtain ⟨NN, hNN⟩ : ∃ x, x = (vN m0.toNat e0 * vN m1.toNat e1) := ⟨_, rfl⟩
  obtain ⟨DD, hDD⟩ : ∃ x, x = (vD e0 * vD e1) := ⟨_, rfl⟩
  rw [← hneg, ← hNN, ← hDD]
  have HND := hide (And.intro hneg (And.intro hNN hDD))
  clear hf0 hf1 hneg hNN hDD
  go_enter Try.func25, Try.ntmps25
  generalize hw0 : ((w.alloc (.cells #[.bool g0, .int .i64 m0, .int .i64 e0] 25)).alloc (.cells #[.bool g1, .int .i64 m1, .int .i64 e1] 25)).alloc (.cells #[.bool false, .int .i64 0, .int .i64 0] 25) = w0 at A B C hB hws
  go_wp2_with (with_reducible refine wpList_idO ?_; refine load_realU rfl _ rfl w.heap.size rfl g0 m0 e0 A ?_)
  refine (HF0.out w0).mono ?_
  rintro e w1 ⟨rfl, hW1⟩
  have hs1 := hW1.size
  have A1 := RowAt.below A hW1 (by omega)
  have B1 := RowAt.below B hW1 (by omega)
  have C1 := RowAt.below C hW1 (by omega)
  have hB1 : Below w.heap.size w w1 := hB.trans (hW1.mono (by omega))
  clear hw0 A B C hB hW1
  cases f0 with
  | false =>
    have HA : Hid (AnsS (false && f1) neg NN DD (.returned (.tuple #[.agg #[.bool false, .int .i64 0, .int .i64 0], .bool false]))) := .inl ⟨by simp, rfl⟩
    go_wp2_with (with_reducible refine wpList_idO ?_; refine store_3 rfl 25 _ _ rfl rfl zero_real.2 (w.heap.size + 1 + 1) _ rfl (real_one _ _ _) rfl rfl _ rfl C1 ?_; intro w2 hR2 hg2 hs2)
    exact bodyPost_ret (res_real_tmp Try.results25 _ _ (w.heap.size + 1 + 1) _ _ _ _ rfl rfl hR2) rfl ⟨HA.out, hB1.grown hg2 hB1.size (by intro k hk; cases hk; omega)⟩
  | true =>
    have c10 : w1.cell? ⟨w.heap.size + 1, 0, none⟩ = some (.bool g1) := by rw [cell_of_row _ _ _ _ _ _ B1]; rfl
    have c11 : w1.cell? ⟨w.heap.size + 1, 1, none⟩ = some (.int .i64 m1) := by rw [cell_of_row _ _ _ _ _ _ B1]; rfl
    have c12 : w1.cell? ⟨w.heap.size + 1, 2, none⟩ = some (.int .i64 e1) := by rw [cell_of_row _ _ _ _ _ _ B1]; rfl
    go_wp2_with fail
    refine (HF1.out w1).mono ?_
    rintro e w2 ⟨rfl, hW2⟩
    have hs2 := hW2.size
    have A2 := RowAt.below A1 hW2 (by omega)
    have B2 := RowAt.below B1 hW2 (by omega)
    have C2 := RowAt.below C1 hW2 (by omega)
    have hB2 : Below w.heap.size w w2 := hB1.trans (hW2.mono (by omega))
    have hs2' : w.heap.size + 1 + 1 + 1 ≤ w2.heap.size := by omega
    clear A1 B1 C1 hB1 hW2 c10 c11 c12 hs1 hs2
    cases f1 with
    | false =>
      have HA : Hid (AnsS (true && false) neg NN DD (.returned (.tuple #[.agg #[.bool false, .int .i64 0, .int .i64 0], .bool false]))) := .inl ⟨by simp, rfl⟩
      go_wp2_with (with_reducible refine wpList_idO ?_; refine store_3 rfl 25 _ _ rfl rfl zero_real.2 (w.heap.size + 1 + 1) _ rfl (real_one _ _ _) rfl rfl _ rfl C2 ?_; intro w3 hR3 hg3 hs3)
      exact bodyPost_ret (res_real_tmp Try.results25 _ _ (w.heap.size + 1 + 1) _ _ _ _ rfl rfl hR3) rfl ⟨HA.out, hB2.grown hg3 hB2.size (by intro k hk; cases hk; omega)⟩
    | true =>
      obtain ⟨n0, hn0, hF0⟩ := (finB_iff m0 e0).1 HH.out.1.symm
      obtain ⟨n1, hn1, hF1⟩ := (finB_iff m1 e1).1 HH.out.2.symm
      have ht0 : m0.toNat = n0 := by omega
      have ht1 : m1.toNat = n1 := by omega
      rw [ht0, ht1] at HND
      have HFT : Hid ((true && true) = true) := rfl
      have HN0 := hide (And.intro hn0 hF0)
      have HNN1 := hide (And.intro hn1 hF1)
      clear hn0 hn1 hF0 hF1 ht0 ht1
      go_wp2_with (with_reducible refine wpList_idO ?_; refine load_realU rfl _ rfl w.heap.size rfl g0 m0 e0 A2 ?_)
      refine (partsT g0 m0 e0 w2 HN0.out.1 HN0.out.2).mono ?_
      rintro ea w3 ⟨⟨s3, t3, rfl, P0, Q0, hP0, hQ0, q0, x0, b0, d0⟩, hW3⟩
      have HP0 := hide (And.intro hP0 (And.intro hQ0 (And.intro q0 (And.intro x0 (parts_bd HN0.out.2 b0 d0)))))
      have hs3 := hW3.size
      have A3 := RowAt.below A2 hW3 (by omega)
      have B3 := RowAt.below B2 hW3 (by omega)
      have C3 := RowAt.below C2 hW3 (by omega)
      have hB3 : Below w.heap.size w w3 := hB2.trans (hW3.mono (by omega))
      have hs3' : w.heap.size + 1 + 1 + 1 ≤ w3.heap.size := by omega
      clear A2 B2 C2 hB2 hW3 hP0 hQ0 q0 x0 b0 d0 hs3
      go_wp2_with (with_reducible refine wpList_idO ?_; refine load_realU rfl _ rfl (w.heap.size + 1) rfl g1 m1 e1 B3 ?_)
      refine (partsT g1 m1 e1 w3 HNN1.out.1 HNN1.out.2).mono ?_
      rintro eb w4 ⟨⟨s4, t4, rfl, P1, Q1, hP1, hQ1, q1, x1, b1, d1⟩, hW4⟩
      have HP1 := hide (And.intro hP1 (And.intro hQ1 (And.intro q1 (And.intro x1 (parts_bd HNN1.out.2 b1 d1)))))
      have hs4 := hW4.size
      have A4 := RowAt.below A3 hW4 (by omega)
      have B4 := RowAt.below B3 hW4 (by omega)
      have C4 := RowAt.below C3 hW4 (by omega)
      have hB4 : Below w.heap.size w w4 := hB3.trans (hW4.mono (by omega))
      have hs4' : w.heap.size + 1 + 1 + 1 ≤ w4.heap.size := by omega
      clear A3 B3 C3 hB3 hW4 hP1 hQ1 q1 x1 b1 d1 hs4 hs3'
      have z0 : s3.size ≤ 600 := HP0.out.1.two' HP0.out.2.2.2.2.1 (by omega)
      have y0 : t3.size ≤ 600 := HP0.out.2.1.two' (pow_in (j := 151) HP0.out.2.2.2.2.2 (by omega)) (by omega)
      have z1 : s4.size ≤ 600 := HP1.out.1.two' HP1.out.2.2.2.2.1 (by omega)
      have y1 : t4.size ≤ 600 := HP1.out.2.1.two' (pow_in (j := 151) HP1.out.2.2.2.2.2 (by omega)) (by omega)
      go_wp2_with fail
      refine held_begin (fun w' => RowAt w' (w.heap.size) 25 #[.bool g0, .int .i64 m0, .int .i64 e0] ∧ RowAt w' (w.heap.size + 1) 25 #[.bool g1, .int .i64 m1, .int .i64 e1]) (by kernel_rfl) ?_
      have hS : RowAt w4.drew (w.heap.size) 25 #[.bool g0, .int .i64 m0, .int .i64 e0] ∧ RowAt w4.drew (w.heap.size + 1) 25 #[.bool g1, .int .i64 m1, .int .i64 e1] := ⟨A4, B4⟩
      refine held_val 0 (some 29) rfl rfl (by kernel_rfl) (by kernel_rfl) (by kernel_rfl) noPanic_put rfl (.pointer (some ⟨w.heap.size, 0, none⟩)) (fun _ => by go_simp) hS ?_
      simp only [Act.put, List.setIfInBounds_toArray, List.set_cons_zero, List.set_cons_succ]
      refine held_valS 1 (some 30) rfl rfl (by kernel_rfl) (by kernel_rfl) (by kernel_rfl) noPanic_put rfl (.bool g0) (fun _ h => BL.run_cell1 _ 4 rfl ⟨w.heap.size, 0, none⟩ rfl (.bool g0) Try.underlying4 rfl (by rw [cell_of_row _ _ _ _ _ _ h.1]; rfl)) hS ?_
      simp only [Act.put, List.setIfInBounds_toArray, List.set_cons_zero, List.set_cons_succ]
      refine held_val 2 (some 31) rfl rfl (by kernel_rfl) (by kernel_rfl) (by kernel_rfl) noPanic_put rfl (.pointer (some ⟨w.heap.size + 1, 0, none⟩)) (fun _ => by go_simp) hS ?_
      simp only [Act.put, List.setIfInBounds_toArray, List.set_cons_zero, List.set_cons_succ]
      refine held_valS 3 (some 32) rfl rfl (by kernel_rfl) (by kernel_rfl) (by kernel_rfl) noPanic_put rfl (.bool g1) (fun _ h => BL.run_cell1 _ 4 rfl ⟨w.heap.size + 1, 0, none⟩ rfl (.bool g1) Try.underlying4 rfl (by rw [cell_of_row _ _ _ _ _ _ h.2]; rfl)) hS ?_
      simp only [Act.put, List.setIfInBounds_toArray, List.set_cons_zero, List.set_cons_succ]
      refine held_val 4 (some 33) rfl rfl (by kernel_rfl) (by kernel_rfl) (by kernel_rfl) noPanic_put rfl (.bool (g0 != g1)) (fun _ => by go_simp; cases g0 <;> cases g1 <;> rfl) hS ?_
      simp only [Act.put, List.setIfInBounds_toArray, List.set_cons_zero, List.set_cons_succ]
      refine held_val 5 (some 34) rfl rfl (by kernel_rfl) (by kernel_rfl) (by kernel_rfl) noPanic_put rfl (.string s3) (fun _ => by go_simp) hS ?_
      simp only [Act.put, List.setIfInBounds_toArray, List.set_cons_zero, List.set_cons_succ]
      refine held_val 6 (some 35) rfl rfl (by kernel_rfl) (by kernel_rfl) (by kernel_rfl) noPanic_put rfl (.string s4) (fun _ => by go_simp) hS ?_
      simp only [Act.put, List.setIfInBounds_toArray, List.set_cons_zero, List.set_cons_succ]
      refine held_val 8 (some 37) rfl rfl (by kernel_rfl) (by kernel_rfl) (by kernel_rfl) noPanic_put rfl (.string t3) (fun _ => by go_simp) hS ?_
      simp only [Act.put, List.setIfInBounds_toArray, List.set_cons_zero, List.set_cons_succ]
      refine held_val 9 (some 38) rfl rfl (by kernel_rfl) (by kernel_rfl) (by kernel_rfl) noPanic_put rfl (.string t4) (fun _ => by go_simp) hS ?_
      simp only [Act.put, List.setIfInBounds_toArray, List.set_cons_zero, List.set_cons_succ]
      refine held_call 7 (some 36) (by kernel_rfl) rfl rfl rfl 46 #[.string s3, .string s4] (by go_simp) _ (mulT w4.drew HP0.out.1 HP1.out.1 z0 z1) ?_
      rintro ec w5 ⟨s5, rfl, hT5, hW5⟩
      have hs5 : w4.heap.size ≤ w5.heap.size := hW5.size
      have hS5 : RowAt w5 (w.heap.size) 25 #[.bool g0, .int .i64 m0, .int .i64 e0] ∧ RowAt w5 (w.heap.size + 1) 25 #[.bool g1, .int .i64 m1, .int .i64 e1] := ⟨RowAt.below hS.1 hW5 (by show _ < w4.heap.size; omega), RowAt.below hS.2 hW5 (by show _ < w4.heap.size; omega)⟩
      refine ⟨_, rfl, hS5, ?_⟩
      simp only [Act.put, List.setIfInBounds_toArray, List.set_cons_zero, List.set_cons_succ]
      refine held_call 10 (some 39) (by kernel_rfl) rfl rfl rfl 46 #[.string t3, .string t4] (by go_simp) _ (mulT w5 HP0.out.2.1 HP1.out.2.1 y0 y1) ?_
      rintro ed w6 ⟨s6, rfl, hT6, hW6⟩
      have hs6 : w5.heap.size ≤ w6.heap.size := hW6.size
      have hS6 : RowAt w6 (w.heap.size) 25 #[.bool g0, .int .i64 m0, .int .i64 e0] ∧ RowAt w6 (w.heap.size + 1) 25 #[.bool g1, .int .i64 m1, .int .i64 e1] := ⟨RowAt.below hS5.1 hW6 (by omega), RowAt.below hS5.2 hW6 (by omega)⟩
      have hlt := mul_two HP0.out.2.2.2.2.1 (Nat.le_of_lt HP1.out.2.2.2.2.1)
      have z5 : s5.size ≤ 600 := hT5.two' hlt (by omega)
      have z6 : s6.size ≤ 600 := hT6.two' (mul_two (pow_in (j := 151) HP0.out.2.2.2.2.2 (by omega)) HP1.out.2.2.2.2.2) (by omega)
      have hne : Q0 * Q1 ≠ 0 := Nat.mul_ne_zero HP0.out.2.2.1 HP1.out.2.2.1
      refine ⟨_, rfl, hS6, ?_⟩
      simp only [Act.put, List.setIfInBounds_toArray, List.set_cons_zero, List.set_cons_succ]
      refine held_call 11 (some 40) (by kernel_rfl) rfl rfl rfl 33 #[.bool (g0 != g1), .string s5, .string s6] (by go_simp) _ (lbOfT (g0 != g1) w6 hT5 hT6 z5 z6 (pow_up (j := 1000) hlt (by omega)) hne) ?_
      rintro ee w7 ⟨⟨R, v7, rfl, hR7, hv7⟩, hW7⟩
      subst hv7
      have hs7 : w6.heap.size ≤ w7.heap.size := hW7.size
      have hS7 : RowAt w7 (w.heap.size) 25 #[.bool g0, .int .i64 m0, .int .i64 e0] ∧ RowAt w7 (w.heap.size + 1) 25 #[.bool g1, .int .i64 m1, .int .i64 e1] := ⟨RowAt.below hS6.1 hW7 (by omega), RowAt.below hS6.2 hW7 (by omega)⟩
      have C7 := RowAt.below (RowAt.below (RowAt.below (w := w4.drew) C4 hW5 (by show _ < w4.heap.size; omega)) hW6 (by omega)) hW7 (by omega)
      have hB7 : Below w.heap.size w w7 := ((hB4.drew.trans (hW5.mono (by show _ ≤ w4.heap.size; omega))).trans (hW6.mono (by omega))).trans (hW7.mono (by omega))
      have HA : Hid (AnsS (true && true) neg NN DD (.returned (.tuple #[.agg #[.bool (g0 != g1), .int .i64 (manOf R : Nat), .int .i64 (expOf R)], .bool true]))) := by
        refine .inr ⟨HFT.out, R, ?_, by rw [HND.out.1]⟩
        rw [HND.out.2.1, HND.out.2.2]
        exact hR7.move (Nat.pos_of_ne_zero hne) (Nat.mul_pos (Nat.pos_of_ne_zero (vD_ne e0)) (Nat.pos_of_ne_zero (vD_ne e1))) (mul_cross HP0.out.2.2.2.1 HP1.out.2.2.2.1)
      refine ⟨_, rfl, hS7, ?_⟩
      simp only [Act.put, List.setIfInBounds_toArray, List.set_cons_zero, List.set_cons_succ]
      refine held_store_real 12 (by kernel_rfl) rfl rfl _ _ rfl rfl (w.heap.size + 1 + 1) (g0 != g1) (manOf R : Nat) (expOf R) rfl rfl false 0 0 C7 ?_
      intro w8 hR8 hg8 hs8
      have hS8 : RowAt w8 (w.heap.size) 25 #[.bool g0, .int .i64 m0, .int .i64 e0] ∧ RowAt w8 (w.heap.size + 1) 25 #[.bool g1, .int .i64 m1, .int .i64 e1] := ⟨RowAt.grown hS7.1 hg8 (by simp; omega), RowAt.grown hS7.2 hg8 (by simp)⟩
      refine ⟨hS8, ?_⟩
      refine held_assign 13 (some 5) (by kernel_rfl) rfl rfl _ rfl rfl (.bool true) rfl hS8 ?_
      simp only [Act.put, List.setIfInBounds_toArray, List.set_cons_zero, List.set_cons_succ]
      refine wpAnyH_done (by kernel_rfl) ?_ _
      refine NoPanic.normal ?_
      go_wp2
      exact bodyPost_ret (res_real_tmp Try.results25 _ _ (w.heap.size + 1 + 1) _ _ _ _ rfl rfl hR8) rfl ⟨HA.out, hB7.grown hg8 hB7.size (by intro k hk; cases hk; omega)⟩

set_option maxHeartbeats 8000000 in
set_option maxRecDepth 100000 in
theorem specDivReal_any (g0 : Bool) (m0 e0 : Int) (g1 : Bool) (m1 e1 : Int) (w : World) :
    Calls Try.prog 27 #[.agg #[.bool g0, .int .i64 m0, .int .i64 e0], .agg #[.bool g1, .int .i64 m1, .int .i64 e1]] w fun e' w' => AnsS (finB m0 e0 && finB m1 e1 && decide (m1 ≠ 0)) (g0 != g1) (vN m0.toNat e0 * vD e1) (vD e0 * vN m1.toNat e1) e' ∧ Below w.heap.size w w' := by
  have hz := zero_real.1
  have A : RowAt (((w.alloc (.cells #[.bool g0, .int .i64 m0, .int .i64 e0] 25)).alloc (.cells #[.bool g1, .int .i64 m1, .int .i64 e1] 25)).alloc (.cells #[.bool false, .int .i64 0, .int .i64 0] 25)) w.heap.size 25 #[.bool g0, .int .i64 m0, .int .i64 e0] := RowAt.old (RowAt.old (RowAt.new w 25 #[.bool g0, .int .i64 m0, .int .i64 e0]) _) _
  have B : RowAt (((w.alloc (.cells #[.bool g0, .int .i64 m0, .int .i64 e0] 25)).alloc (.cells #[.bool g1, .int .i64 m1, .int .i64 e1] 25)).alloc (.cells #[.bool false, .int .i64 0, .int .i64 0] 25)) (w.heap.size + 1) 25 #[.bool g1, .int .i64 m1, .int .i64 e1] := by
    have h := RowAt.new (w.alloc (.cells #[.bool g0, .int .i64 m0, .int .i64 e0] 25)) 25 #[.bool g1, .int .i64 m1, .int .i64 e1]
    rw [World.size_alloc] at h
    exact RowAt.old h _
  have C : RowAt (((w.alloc (.cells #[.bool g0, .int .i64 m0, .int .i64 e0] 25)).alloc (.cells #[.bool g1, .int .i64 m1, .int .i64 e1] 25)).alloc (.cells #[.bool false, .int .i64 0, .int .i64 0] 25)) (w.heap.size + 1 + 1) 25 #[.bool false, .int .i64 0, .int .i64 0] := by
    have h := RowAt.new ((w.alloc (.cells #[.bool g0, .int .i64 m0, .int .i64 e0] 25)).alloc (.cells #[.bool g1, .int .i64 m1, .int .i64 e1] 25)) 25 #[.bool false, .int .i64 0, .int .i64 0]
    simp only [World.size_alloc] at h
    exact h
  have hB : Below w.heap.size w (((w.alloc (.cells #[.bool g0, .int .i64 m0, .int .i64 e0] 25)).alloc (.cells #[.bool g1, .int .i64 m1, .int .i64 e1] 25)).alloc (.cells #[.bool false, .int .i64 0, .int .i64 0] 25)) := (((Below.refl _ _).alloc (Nat.le_refl _) _).alloc (by simp) _).alloc (by simp; omega) _
  have hws : (((w.alloc (.cells #[.bool g0, .int .i64 m0, .int .i64 e0] 25)).alloc (.cells #[.bool g1, .int .i64 m1, .int .i64 e1] 25)).alloc (.cells #[.bool false, .int .i64 0, .int .i64 0] 25)).heap.size = w.heap.size + 1 + 1 + 1 := by simp
  have HF0 := hide (fun w' => lbFinite_any g0 m0 e0 w')
  have HF1 := hide (fun w' => lbFinite_any g1 m1 e1 w')
  obtain ⟨f0, hf0⟩ : ∃ f, f = finB m0 e0 := ⟨_, rfl⟩
  obtain ⟨f1, hf1⟩ : ∃ f, f = finB m1 e1 := ⟨_, rfl⟩
  rw [← hf0] at HF0 ⊢
  rw [← hf1] at HF1 ⊢
  have HH := hide (And.intro hf0 hf1)
  obtain ⟨neg, hneg⟩ : ∃ x, x = (g0 != g1) := ⟨_, rfl⟩
  obtain ⟨NN, hNN⟩ : ∃ x, x = (vN m0.toNat e0 * vD e1) := ⟨_, rfl⟩
  obtain ⟨DD, hDD⟩ : ∃ x, x = (vD e0 * vN m1.toNat e1) := ⟨_, rfl⟩
  rw [← hneg, ← hNN, ← hDD]
  have HND := hide (And.intro hneg (And.intro hNN hDD))
  clear hf0 hf1 hneg hNN hDD
  go_enter Try.func27, Try.ntmps27
  generalize hw0 : ((w.alloc (.cells #[.bool g0, .int .i64 m0, .int .i64 e0] 25)).alloc (.cells #[.bool g1, .int .i64 m1, .int .i64 e1] 25)).alloc (.cells #[.bool false, .int .i64 0, .int .i64 0] 25) = w0 at A B C hB hws
  go_wp2_with (with_reducible refine wpList_idO ?_; refine load_realU rfl _ rfl w.heap.size rfl g0 m0 e0 A ?_)
  refine (HF0.out w0).mono ?_
  rintro e w1 ⟨rfl, hW1⟩
  have hs1 := hW1.size
  have A1 := RowAt.below A hW1 (by omega)
  have B1 := RowAt.below B hW1 (by omega)
  have C1 := RowAt.below C hW1 (by omega)
  have hB1 : Below w.heap.size w w1 := hB.trans (hW1.mono (by omega))
  clear hw0 A B C hB hW1
  cases f0 with
  | false =>
    have HA : Hid (AnsS (false && f1 && decide (m1 ≠ 0)) neg NN DD (.returned (.tuple #[.agg #[.bool false, .int .i64 0, .int .i64 0], .bool false]))) := .inl ⟨by simp, rfl⟩
    go_wp2_with (with_reducible refine wpList_idO ?_; refine store_3 rfl 25 _ _ rfl rfl zero_real.2 (w.heap.size + 1 + 1) _ rfl (real_one _ _ _) rfl rfl _ rfl C1 ?_; intro w2 hR2 hg2 hs2)
    exact bodyPost_ret (res_real_tmp Try.results27 _ _ (w.heap.size + 1 + 1) _ _ _ _ rfl rfl hR2) rfl ⟨HA.out, hB1.grown hg2 hB1.size (by intro k hk; cases hk; omega)⟩
  | true =>
    have c10 : w1.cell? ⟨w.heap.size + 1, 0, none⟩ = some (.bool g1) := by rw [cell_of_row _ _ _ _ _ _ B1]; rfl
    have c11 : w1.cell? ⟨w.heap.size + 1, 1, none⟩ = some (.int .i64 m1) := by rw [cell_of_row _ _ _ _ _ _ B1]; rfl
    have c12 : w1.cell? ⟨w.heap.size + 1, 2, none⟩ = some (.int .i64 e1) := by rw [cell_of_row _ _ _ _ _ _ B1]; rfl
    go_wp2_with fail
    refine (HF1.out w1).mono ?_
    rintro e w2 ⟨rfl, hW2⟩
    have hs2 := hW2.size
    have A2 := RowAt.below A1 hW2 (by omega)
    have B2 := RowAt.below B1 hW2 (by omega)
    have C2 := RowAt.below C1 hW2 (by omega)
    have hB2 : Below w.heap.size w w2 := hB1.trans (hW2.mono (by omega))
    have hs2' : w.heap.size + 1 + 1 + 1 ≤ w2.heap.size := by omega
    clear A1 B1 C1 hB1 hW2 c10 c11 c12 hs1 hs2
    cases f1 with
    | false =>
      have HA : Hid (AnsS (true && false && decide (m1 ≠ 0)) neg NN DD (.returned (.tuple #[.agg #[.bool false, .int .i64 0, .int .i64 0], .bool false]))) := .inl ⟨by simp, rfl⟩
      go_wp2_with (with_reducible refine wpList_idO ?_; refine store_3 rfl 25 _ _ rfl rfl zero_real.2 (w.heap.size + 1 + 1) _ rfl (real_one _ _ _) rfl rfl _ rfl C2 ?_; intro w3 hR3 hg3 hs3)
      exact bodyPost_ret (res_real_tmp Try.results27 _ _ (w.heap.size + 1 + 1) _ _ _ _ rfl rfl hR3) rfl ⟨HA.out, hB2.grown hg3 hB2.size (by intro k hk; cases hk; omega)⟩
    | true =>
      obtain ⟨n0, hn0, hF0⟩ := (finB_iff m0 e0).1 HH.out.1.symm
      obtain ⟨n1, hn1, hF1⟩ := (finB_iff m1 e1).1 HH.out.2.symm
      have ht0 : m0.toNat = n0 := by omega
      have ht1 : m1.toNat = n1 := by omega
      rw [ht0, ht1] at HND
      have c21 : w2.cell? ⟨w.heap.size + 1, 1, none⟩ = some (.int .i64 m1) := by rw [cell_of_row _ _ _ _ _ _ B2]; rfl
      by_cases hd0 : m1 = 0
      · have hdb : (m1 == 0) = true := by simpa using hd0
        have HA : Hid (AnsS (true && true && decide (m1 ≠ 0)) neg NN DD (.returned (.tuple #[.agg #[.bool false, .int .i64 0, .int .i64 0], .bool false]))) := .inl ⟨by simp [hd0], rfl⟩
        clear hd0
        go_wp2_with (with_reducible refine wpList_idO ?_; refine store_3 rfl 25 _ _ rfl rfl zero_real.2 (w.heap.size + 1 + 1) _ rfl (real_one _ _ _) rfl rfl _ rfl C2 ?_; intro w3 hR3 hg3 hs3)
        exact bodyPost_ret (res_real_tmp Try.results27 _ _ (w.heap.size + 1 + 1) _ _ _ _ rfl rfl hR3) rfl ⟨HA.out, hB2.grown hg3 hB2.size (by intro k hk; cases hk; omega)⟩
      have hdb : (m1 == 0) = false := by simpa using hd0
      have HN1 : Hid (n1 ≠ 0) := fun h => hd0 (by omega)
      have HFT : Hid ((true && true && decide (m1 ≠ 0)) = true) := by unfold Hid; simp [hd0]
      clear hd0
      have HN0 := hide (And.intro hn0 hF0)
      have HNN1 := hide (And.intro hn1 hF1)
      clear hn0 hn1 hF0 hF1 ht0 ht1
      go_wp2_with (with_reducible refine wpList_idO ?_; refine load_realU rfl _ rfl w.heap.size rfl g0 m0 e0 A2 ?_)
      clear c21 hdb
      refine (partsT g0 m0 e0 w2 HN0.out.1 HN0.out.2).mono ?_
      rintro ea w3 ⟨⟨s3, t3, rfl, P0, Q0, hP0, hQ0, q0, x0, b0, d0⟩, hW3⟩
      have HP0 := hide (And.intro hP0 (And.intro hQ0 (And.intro q0 (And.intro x0 (parts_bd HN0.out.2 b0 d0)))))
      have hs3 := hW3.size
      have A3 := RowAt.below A2 hW3 (by omega)
      have B3 := RowAt.below B2 hW3 (by omega)
      have C3 := RowAt.below C2 hW3 (by omega)
      have hB3 : Below w.heap.size w w3 := hB2.trans (hW3.mono (by omega))
      have hs3' : w.heap.size + 1 + 1 + 1 ≤ w3.heap.size := by omega
      clear A2 B2 C2 hB2 hW3 hP0 hQ0 q0 x0 b0 d0 hs3
      go_wp2_with (with_reducible refine wpList_idO ?_; refine load_realU rfl _ rfl (w.heap.size + 1) rfl g1 m1 e1 B3 ?_)
      refine (partsT g1 m1 e1 w3 HNN1.out.1 HNN1.out.2).mono ?_
      rintro eb w4 ⟨⟨s4, t4, rfl, P1, Q1, hP1, hQ1, q1, x1, b1, d1⟩, hW4⟩
      have HP1 := hide (And.intro hP1 (And.intro hQ1 (And.intro q1 (And.intro x1 (parts_bd HNN1.out.2 b1 d1)))))
      have hs4 := hW4.size
      have A4 := RowAt.below A3 hW4 (by omega)
      have B4 := RowAt.below B3 hW4 (by omega)
      have C4 := RowAt.below C3 hW4 (by omega)
      have hB4 : Below w.heap.size w w4 := hB3.trans (hW4.mono (by omega))
      have hs4' : w.heap.size + 1 + 1 + 1 ≤ w4.heap.size := by omega
      clear A3 B3 C3 hB3 hW4 hP1 hQ1 q1 x1 b1 d1 hs4 hs3'
      have z0 : s3.size ≤ 600 := HP0.out.1.two' HP0.out.2.2.2.2.1 (by omega)
      have y0 : t3.size ≤ 600 := HP0.out.2.1.two' (pow_in (j := 151) HP0.out.2.2.2.2.2 (by omega)) (by omega)
      have z1 : s4.size ≤ 600 := HP1.out.1.two' HP1.out.2.2.2.2.1 (by omega)
      have y1 : t4.size ≤ 600 := HP1.out.2.1.two' (pow_in (j := 151) HP1.out.2.2.2.2.2 (by omega)) (by omega)
      go_wp2_with fail
      refine held_begin (fun w' => RowAt w' (w.heap.size) 25 #[.bool g0, .int .i64 m0, .int .i64 e0] ∧ RowAt w' (w.heap.size + 1) 25 #[.bool g1, .int .i64 m1, .int .i64 e1]) (by kernel_rfl) ?_
      have hS : RowAt w4.drew (w.heap.size) 25 #[.bool g0, .int .i64 m0, .int .i64 e0] ∧ RowAt w4.drew (w.heap.size + 1) 25 #[.bool g1, .int .i64 m1, .int .i64 e1] := ⟨A4, B4⟩
      refine held_val 0 (some 34) rfl rfl (by kernel_rfl) (by kernel_rfl) (by kernel_rfl) noPanic_put rfl (.pointer (some ⟨w.heap.size, 0, none⟩)) (fun _ => by go_simp) hS ?_
      simp only [Act.put, List.setIfInBounds_toArray, List.set_cons_zero, List.set_cons_succ]
      refine held_valS 1 (some 35) rfl rfl (by kernel_rfl) (by kernel_rfl) (by kernel_rfl) noPanic_put rfl (.bool g0) (fun _ h => BL.run_cell1 _ 4 rfl ⟨w.heap.size, 0, none⟩ rfl (.bool g0) Try.underlying4 rfl (by rw [cell_of_row _ _ _ _ _ _ h.1]; rfl)) hS ?_
      simp only [Act.put, List.setIfInBounds_toArray, List.set_cons_zero, List.set_cons_succ]
      refine held_val 2 (some 36) rfl rfl (by kernel_rfl) (by kernel_rfl) (by kernel_rfl) noPanic_put rfl (.pointer (some ⟨w.heap.size + 1, 0, none⟩)) (fun _ => by go_simp) hS ?_
      simp only [Act.put, List.setIfInBounds_toArray, List.set_cons_zero, List.set_cons_succ]
      refine held_valS 3 (some 37) rfl rfl (by kernel_rfl) (by kernel_rfl) (by kernel_rfl) noPanic_put rfl (.bool g1) (fun _ h => BL.run_cell1 _ 4 rfl ⟨w.heap.size + 1, 0, none⟩ rfl (.bool g1) Try.underlying4 rfl (by rw [cell_of_row _ _ _ _ _ _ h.2]; rfl)) hS ?_
      simp only [Act.put, List.setIfInBounds_toArray, List.set_cons_zero, List.set_cons_succ]
      refine held_val 4 (some 38) rfl rfl (by kernel_rfl) (by kernel_rfl) (by kernel_rfl) noPanic_put rfl (.bool (g0 != g1)) (fun _ => by go_simp; cases g0 <;> cases g1 <;> rfl) hS ?_
      simp only [Act.put, List.setIfInBounds_toArray, List.set_cons_zero, List.set_cons_succ]
      refine held_val 5 (some 39) rfl rfl (by kernel_rfl) (by kernel_rfl) (by kernel_rfl) noPanic_put rfl (.string s3) (fun _ => by go_simp) hS ?_
      simp only [Act.put, List.setIfInBounds_toArray, List.set_cons_zero, List.set_cons_succ]
      refine held_val 6 (some 40) rfl rfl (by kernel_rfl) (by kernel_rfl) (by kernel_rfl) noPanic_put rfl (.string t4) (fun _ => by go_simp) hS ?_
      simp only [Act.put, List.setIfInBounds_toArray, List.set_cons_zero, List.set_cons_succ]
      refine held_val 8 (some 42) rfl rfl (by kernel_rfl) (by kernel_rfl) (by kernel_rfl) noPanic_put rfl (.string t3) (fun _ => by go_simp) hS ?_
      simp only [Act.put, List.setIfInBounds_toArray, List.set_cons_zero, List.set_cons_succ]
      refine held_val 9 (some 43) rfl rfl (by kernel_rfl) (by kernel_rfl) (by kernel_rfl) noPanic_put rfl (.string s4) (fun _ => by go_simp) hS ?_
      simp only [Act.put, List.setIfInBounds_toArray, List.set_cons_zero, List.set_cons_succ]
      refine held_call 7 (some 41) (by kernel_rfl) rfl rfl rfl 46 #[.string s3, .string t4] (by go_simp) _ (mulT w4.drew HP0.out.1 HP1.out.2.1 z0 y1) ?_
      rintro ec w5 ⟨s5, rfl, hT5, hW5⟩
      have hs5 : w4.heap.size ≤ w5.heap.size := hW5.size
      have hS5 : RowAt w5 (w.heap.size) 25 #[.bool g0, .int .i64 m0, .int .i64 e0] ∧ RowAt w5 (w.heap.size + 1) 25 #[.bool g1, .int .i64 m1, .int .i64 e1] := ⟨RowAt.below hS.1 hW5 (by show _ < w4.heap.size; omega), RowAt.below hS.2 hW5 (by show _ < w4.heap.size; omega)⟩
      refine ⟨_, rfl, hS5, ?_⟩
      simp only [Act.put, List.setIfInBounds_toArray, List.set_cons_zero, List.set_cons_succ]
      refine held_call 10 (some 44) (by kernel_rfl) rfl rfl rfl 46 #[.string t3, .string s4] (by go_simp) _ (mulT w5 HP0.out.2.1 HP1.out.1 y0 z1) ?_
      rintro ed w6 ⟨s6, rfl, hT6, hW6⟩
      have hs6 : w5.heap.size ≤ w6.heap.size := hW6.size
      have hS6 : RowAt w6 (w.heap.size) 25 #[.bool g0, .int .i64 m0, .int .i64 e0] ∧ RowAt w6 (w.heap.size + 1) 25 #[.bool g1, .int .i64 m1, .int .i64 e1] := ⟨RowAt.below hS5.1 hW6 (by omega), RowAt.below hS5.2 hW6 (by omega)⟩
      have hlt := mul_two HP0.out.2.2.2.2.1 HP1.out.2.2.2.2.2
      have z5 : s5.size ≤ 600 := hT5.two' hlt (by omega)
      have z6 : s6.size ≤ 600 := hT6.two' (mul_two (pow_in (j := 151) HP0.out.2.2.2.2.2 (by omega)) (Nat.le_of_lt HP1.out.2.2.2.2.1)) (by omega)
      have hne : Q0 * P1 ≠ 0 := Nat.mul_ne_zero HP0.out.2.2.1 (fun h => HN1.out ((parts_zero HP1.out.2.2.2.1 HP1.out.2.2.1).1 h))
      refine ⟨_, rfl, hS6, ?_⟩
      simp only [Act.put, List.setIfInBounds_toArray, List.set_cons_zero, List.set_cons_succ]
      refine held_call 11 (some 45) (by kernel_rfl) rfl rfl rfl 33 #[.bool (g0 != g1), .string s5, .string s6] (by go_simp) _ (lbOfT (g0 != g1) w6 hT5 hT6 z5 z6 (pow_up (j := 1000) hlt (by omega)) hne) ?_
      rintro ee w7 ⟨⟨R, v7, rfl, hR7, hv7⟩, hW7⟩
      subst hv7
      have hs7 : w6.heap.size ≤ w7.heap.size := hW7.size
      have hS7 : RowAt w7 (w.heap.size) 25 #[.bool g0, .int .i64 m0, .int .i64 e0] ∧ RowAt w7 (w.heap.size + 1) 25 #[.bool g1, .int .i64 m1, .int .i64 e1] := ⟨RowAt.below hS6.1 hW7 (by omega), RowAt.below hS6.2 hW7 (by omega)⟩
      have C7 := RowAt.below (RowAt.below (RowAt.below (w := w4.drew) C4 hW5 (by show _ < w4.heap.size; omega)) hW6 (by omega)) hW7 (by omega)
      have hB7 : Below w.heap.size w w7 := ((hB4.drew.trans (hW5.mono (by show _ ≤ w4.heap.size; omega))).trans (hW6.mono (by omega))).trans (hW7.mono (by omega))
      have HA : Hid (AnsS (true && true && decide (m1 ≠ 0)) neg NN DD (.returned (.tuple #[.agg #[.bool (g0 != g1), .int .i64 (manOf R : Nat), .int .i64 (expOf R)], .bool true]))) := by
        refine .inr ⟨HFT.out, R, ?_, by rw [HND.out.1]⟩
        rw [HND.out.2.1, HND.out.2.2]
        exact hR7.move (Nat.pos_of_ne_zero hne) (Nat.mul_pos (Nat.pos_of_ne_zero (vD_ne e0)) (Nat.pos_of_ne_zero (fun h => HN1.out (vN_zero.1 h)))) (div_cross HP0.out.2.2.2.1 HP1.out.2.2.2.1)
      refine ⟨_, rfl, hS7, ?_⟩
      simp only [Act.put, List.setIfInBounds_toArray, List.set_cons_zero, List.set_cons_succ]
      refine held_store_real 12 (by kernel_rfl) rfl rfl _ _ rfl rfl (w.heap.size + 1 + 1) (g0 != g1) (manOf R : Nat) (expOf R) rfl rfl false 0 0 C7 ?_
      intro w8 hR8 hg8 hs8
      have hS8 : RowAt w8 (w.heap.size) 25 #[.bool g0, .int .i64 m0, .int .i64 e0] ∧ RowAt w8 (w.heap.size + 1) 25 #[.bool g1, .int .i64 m1, .int .i64 e1] := ⟨RowAt.grown hS7.1 hg8 (by simp; omega), RowAt.grown hS7.2 hg8 (by simp)⟩
      refine ⟨hS8, ?_⟩
      refine held_assign 13 (some 5) (by kernel_rfl) rfl rfl _ rfl rfl (.bool true) rfl hS8 ?_
      simp only [Act.put, List.setIfInBounds_toArray, List.set_cons_zero, List.set_cons_succ]
      refine wpAnyH_done (by kernel_rfl) ?_ _
      refine NoPanic.normal ?_
      go_wp2
      exact bodyPost_ret (res_real_tmp Try.results27 _ _ (w.heap.size + 1 + 1) _ _ _ _ rfl rfl hR8) rfl ⟨HA.out, hB7.grown hg8 hB7.size (by intro k hk; cases hk; omega)⟩
end Go.Proofs.Ytoiegaggekgmjaa
