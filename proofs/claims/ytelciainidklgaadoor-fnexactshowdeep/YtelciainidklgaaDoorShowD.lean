/-
  Cells shown down to a depth: the text, and what spec.lhShow and spec.ShowDeep answer.
-/
import Derived.Test.YtelciainidklgaaDoorYgGoodS
import Derived.Test.YtelciainidklgaaDoorImplKeep
import Derived.Test.YtelciainidklgaaDoorSpecShow
import Derived.Test.YtelciainidklgaaDoorBaseLate
import Derived.Test.YtelciainidklgaaDoorRoundHeld
import Derived.Test.YtelciainidklgaaDoorL1In
namespace Go.Proofs.YtelciainidklgaaDoor
open Go.RowKit BL
set_option linter.unusedVariables false

/-- The text of a cell, down to a depth. -/
def deepT (cs : List Cl) : Nat → Nat → List UInt8
  | 0, i => if (cs.getD i default).1 then Lib.itoa (cs.getD i default).2.1 else [42]
  | d + 1, i => if (cs.getD i default).1 then Lib.itoa (cs.getD i default).2.1 else 40 :: (deepT cs d (cs.getD i default).2.2.1.toNat ++ 32 :: (deepT cs d (cs.getD i default).2.2.2.toNat ++ [41]))
theorem deepT_leaf {cs : List Cl} {i : Nat} (d : Nat) (h : (cs.getD i default).1 = true) : deepT cs d i = Lib.itoa (cs.getD i default).2.1 := by
  cases d with
  | zero => rw [deepT, if_pos h]
  | succ d => rw [deepT, if_pos h]
theorem deepT_pair {cs : List Cl} {i a b : Nat} (d : Nat) (h : (cs.getD i default).1 = false) (ha : (cs.getD i default).2.2.1 = (a : Int)) (hb : (cs.getD i default).2.2.2 = (b : Int)) : deepT cs (d + 1) i = 40 :: (deepT cs d a ++ 32 :: (deepT cs d b ++ [41])) := by
  rw [deepT, if_neg (by rw [h]; simp), ha, hb]; rfl
theorem deepT_star {cs : List Cl} {i : Nat} (h : (cs.getD i default).1 = false) : deepT cs 0 i = [42] := by
  rw [deepT, if_neg (by rw [h]; simp)]
theorem deepT_len {cs : List Cl} (hs : cs.all (sndC cs.length) = true) (hr : clRange cs) : ∀ d i, i < cs.length → (deepT cs d i).length + 3 ≤ 24 * 2 ^ d := by
  intro d
  induction d with
  | zero =>
    intro i hi
    cases hp : (cs.getD i default).1 with
    | true =>
      have := itoa_len (hr i hi).1 (hr i hi).2
      rw [deepT_leaf 0 hp]; omega
    | false => rw [deepT_star hp]; simp
  | succ d ih =>
    intro i hi
    have h2 : 24 * 2 ^ (d + 1) = 2 * (24 * 2 ^ d) := by rw [Nat.pow_succ]; omega
    have h1 : 24 ≤ 24 * 2 ^ d := by have := Nat.one_le_two_pow (n := d); omega
    cases hp : (cs.getD i default).1 with
    | true =>
      have := itoa_len (hr i hi).1 (hr i hi).2
      rw [deepT_leaf _ hp]; omega
    | false =>
      have hsn := getD_all hs hi
      obtain ⟨dd, hd⟩ : ∃ dd, dd = cs.getD i default := ⟨_, rfl⟩
      rw [← hd] at hsn hp
      obtain ⟨lf, kk, aa, bb⟩ := dd
      simp only at hp
      obtain ⟨_, A, C, hA, hC, hAi, hCi⟩ := sndC_pair hsn hp
      rw [deepT_pair d (by rw [← hd]; exact hp) (by rw [← hd]; exact hA) (by rw [← hd]; exact hC)]
      have := ih A hAi
      have := ih C hCi
      simp only [List.length_cons, List.length_append, List.length_nil]
      omega
def deepB (cs : List Cl) (d i : Nat) : ByteArray := ⟨(deepT cs d i).toArray⟩
theorem deepB_size (cs : List Cl) (d i : Nat) : (deepB cs d i).size = (deepT cs d i).length := by simp [deepB, ByteArray.size]

set_option maxHeartbeats 4000000 in
set_option maxRecDepth 100000 in
theorem lhShow_any (cs : List Cl) (hs : cs.all (sndC cs.length) = true) (hl : cs.length ≤ 200) (hr : clRange cs) : ∀ (d : Nat), d ≤ 10 → ∀ (i : Nat) (v : Value) (w : World), i < cs.length → InR w v cellL 4 cs →
    Calls Tryd.prog 34 #[v, .int .i64 (i : Int), .int .i64 (d : Int)] w fun e w' => e = .returned (.string (deepB cs d i)) ∧ Below w.heap.size w w' := by
  intro d
  induction d with
  | zero =>
    intro _ i v w hi hD
    obtain ⟨dd, hd⟩ : ∃ dd, dd = cs.getD i default := ⟨_, rfl⟩
    have hrg := hr i hi
    obtain ⟨o, cap, rfl, _⟩ := id hD
    obtain ⟨lf, n, a, c⟩ := dd
    obtain ⟨g, rfl, q0, q1, q2, q3⟩ := hD.cells4 hi hd
    rw [← hd] at hrg
    have hilt : (i : Int) < (cs.length : Int) := by omega
    have hz := zero_cell.1
    have hB0 : Below w.heap.size w (w.alloc (.cells #[.bool lf, .int .i64 n, .int .i64 a, .int .i64 c] 99)) := (Below.refl _ _).alloc (Nat.le_refl _) _
    cases lf with
    | true =>
      have HN : Hid (deepB cs 0 i = numB n) := by unfold Hid deepB; rw [deepT_leaf 0 (by rw [← hd]), ← hd]; rfl
      have HC : Hid (∀ w, Calls Tryd.prog 59 #[.int .i64 n] w fun e w' => e = .returned (.string (numB n)) ∧ Below w.heap.size w w') := fun w => l1NumInt_any n hrg.1 hrg.2 w
      have HB0 := hideT' hB0
      clear hd hrg hD hs hr hB0
      go_enter Tryd.func34, Tryd.ntmps34
      go_wp2_with fail
      refine (HC.out _).mono ?_
      rintro e w1 ⟨rfl, hB⟩
      have hB2 := HB0.out.trans (hB.mono (by simp))
      go_wp2
      go_ret
      exact ⟨by rw [HN.out]; rfl, hB2⟩
    | false =>
      have HN : Hid (deepB cs 0 i = ⟨#[42]⟩) := by unfold Hid deepB; rw [deepT_star (by rw [← hd])]
      have HB0 := hideT' hB0
      clear hd hrg hD hs hr hB0
      go_enter Tryd.func34, Tryd.ntmps34
      go_wp2
      go_ret
      exact ⟨by rw [HN.out]; rfl, HB0.out⟩
  | succ d ih =>
    intro hd10 i v w hi hD
    obtain ⟨dd, hd⟩ : ∃ dd, dd = cs.getD i default := ⟨_, rfl⟩
    have hrg := hr i hi
    have hsn := getD_all hs hi
    have HI := hideT' hD
    obtain ⟨o, cap, rfl, _⟩ := id hD
    obtain ⟨lf, n, a, c⟩ := dd
    obtain ⟨g, rfl, q0, q1, q2, q3⟩ := hD.cells4 hi hd
    rw [← hd] at hrg hsn
    have hilt : (i : Int) < (cs.length : Int) := by omega
    have hz := zero_cell.1
    have hB0 : Below w.heap.size w (w.alloc (.cells #[.bool lf, .int .i64 n, .int .i64 a, .int .i64 c] 99)) := (Below.refl _ _).alloc (Nat.le_refl _) _
    cases lf with
    | true =>
      have HN : Hid (deepB cs (d + 1) i = numB n) := by unfold Hid deepB; rw [deepT_leaf _ (by rw [← hd]), ← hd]; rfl
      have HC : Hid (∀ w, Calls Tryd.prog 59 #[.int .i64 n] w fun e w' => e = .returned (.string (numB n)) ∧ Below w.heap.size w w') := fun w => l1NumInt_any n hrg.1 hrg.2 w
      have HB0 := hideT' hB0
      clear hd hrg hD hs hr hB0 hsn ih
      go_enter Tryd.func34, Tryd.ntmps34
      go_wp2_with fail
      refine (HC.out _).mono ?_
      rintro e w1 ⟨rfl, hB⟩
      have hB2 := HB0.out.trans (hB.mono (by simp))
      go_wp2
      go_ret
      exact ⟨by rw [HN.out]; rfl, hB2⟩
    | false =>
      obtain ⟨hn0, A, C, hA, hC, hAi, hCi⟩ := sndC_pair hsn rfl
      have HP := hideT' (deepT_pair d (by rw [← hd]) (by rw [← hd]; exact hA) (by rw [← hd]; exact hC) : deepT cs (d + 1) i = _)
      subst hn0 hA hC
      have HLA := hideT' (deepT_len hs hr d A hAi)
      have HLB := hideT' (deepT_len hs hr d C hCi)
      have hp24 : 24 * 2 ^ d ≤ 24576 := by
        have : 2 ^ d ≤ 2 ^ 10 := Nat.pow_le_pow_right (by decide) (by omega)
        have e : (2 : Nat) ^ 10 = 1024 := by decide
        omega
      have IH : Hid (∀ (j : Nat) (w' : World), j < cs.length → Below w.heap.size w w' → Calls Tryd.prog 34 #[.slice (some ⟨g, 0, none⟩) cs.length cap, .int .i64 (j : Int), .int .i64 (d : Int)] w' fun e w'' => e = .returned (.string (deepB cs d j)) ∧ Below w'.heap.size w' w'') := fun j w' hj hB => ih (by omega) j _ w' hj (HI.out.below hB)
      have HD1 : Hid (∀ x : Int, x = ((d + 1 : Nat) : Int) → x - 1 = (d : Int)) := fun x hx => by omega
      have HRC := hideT' (RowAt.new w 99 #[.bool false, .int .i64 0, .int .i64 (A : Int), .int .i64 (C : Int)])
      have HB0 := hideT' hB0
      have hdne : ((((d + 1 : Nat) : Int)) == 0) = false := by simp; omega
      have HZ : Hid (24 * 2 ^ d ≤ 24576) := hp24
      clear hd hrg hD hs hr hB0 hsn ih hp24
      obtain ⟨D, hDD⟩ : ∃ D : Int, D = ((d + 1 : Nat) : Int) := ⟨_, rfl⟩
      have hDn : ¬ D = 0 := by omega
      have hD0 : 0 < D := by omega
      have hD11 : D ≤ 10 := by omega
      rw [← hDD] at hdne ⊢
      have HDD := hideT' hDD
      clear hDD
      go_enter Tryd.func34, Tryd.ntmps34
      go_wp2_with fail
      obtain ⟨w1, hw1⟩ : ∃ w1, w1 = w.alloc (.cells #[.bool false, .int .i64 0, .int .i64 (A : Int), .int .i64 (C : Int)] 99) := ⟨_, rfl⟩
      rw [← hw1] at HRC HB0 ⊢
      clear hw1
      have hwr : IntKind.i64.wrap (D - 1) = D - 1 := by rw [IntKind.wrap_i64]; omega
      have hS : RowAt w1.drew w.heap.size 99 #[.bool false, .int .i64 0, .int .i64 (A : Int), .int .i64 (C : Int)] := HRC.out
      refine held_begin (fun w' => RowAt w' w.heap.size 99 #[.bool false, .int .i64 0, .int .i64 (A : Int), .int .i64 (C : Int)]) (by kernel_rfl) ?_
      refine held_val 0 (some 19) rfl rfl (by kernel_rfl) (by kernel_rfl) (by kernel_rfl) noPanic_put rfl (.slice (some ⟨g, 0, none⟩) cs.length cap) (fun _ => by first | (go_simp; done) | (go_simp; omega)) hS ?_
      simp only [Act.put, List.setIfInBounds_toArray, List.set_cons_zero, List.set_cons_succ]
      refine held_val 1 (some 20) rfl rfl (by kernel_rfl) (by kernel_rfl) (by kernel_rfl) noPanic_put rfl (.pointer (some ⟨w.heap.size, 2, none⟩)) (fun _ => by first | (go_simp; done) | (go_simp; omega)) hS ?_
      simp only [Act.put, List.setIfInBounds_toArray, List.set_cons_zero, List.set_cons_succ]
      refine held_valS 2 (some 21) rfl rfl (by kernel_rfl) (by kernel_rfl) (by kernel_rfl) noPanic_put rfl (.int .i64 (A : Int)) (fun w' h => run_cell1 (.tmp 20) 3 rfl ⟨w.heap.size, 2, none⟩ rfl _ Tryd.underlying3 rfl (by rw [cell_of_row w' _ _ _ _ _ h]; rfl)) hS ?_
      simp only [Act.put, List.setIfInBounds_toArray, List.set_cons_zero, List.set_cons_succ]
      refine held_val 3 (some 22) rfl rfl (by kernel_rfl) (by kernel_rfl) (by kernel_rfl) noPanic_put rfl (.int .i64 D) (fun _ => by first | (go_simp; done) | (go_simp; omega)) hS ?_
      simp only [Act.put, List.setIfInBounds_toArray, List.set_cons_zero, List.set_cons_succ]
      refine held_val 4 (some 23) rfl rfl (by kernel_rfl) (by kernel_rfl) (by kernel_rfl) noPanic_put rfl (.int .i64 (D - 1)) (fun _ => by first | (go_simp; done) | (go_simp; omega)) hS ?_
      simp only [Act.put, List.setIfInBounds_toArray, List.set_cons_zero, List.set_cons_succ]
      refine held_val 8 (some 27) rfl rfl (by kernel_rfl) (by kernel_rfl) (by kernel_rfl) noPanic_put rfl (.slice (some ⟨g, 0, none⟩) cs.length cap) (fun _ => by first | (go_simp; done) | (go_simp; omega)) hS ?_
      simp only [Act.put, List.setIfInBounds_toArray, List.set_cons_zero, List.set_cons_succ]
      refine held_val 9 (some 28) rfl rfl (by kernel_rfl) (by kernel_rfl) (by kernel_rfl) noPanic_put rfl (.pointer (some ⟨w.heap.size, 3, none⟩)) (fun _ => by first | (go_simp; done) | (go_simp; omega)) hS ?_
      simp only [Act.put, List.setIfInBounds_toArray, List.set_cons_zero, List.set_cons_succ]
      refine held_valS 10 (some 29) rfl rfl (by kernel_rfl) (by kernel_rfl) (by kernel_rfl) noPanic_put rfl (.int .i64 (C : Int)) (fun w' h => run_cell1 (.tmp 28) 3 rfl ⟨w.heap.size, 3, none⟩ rfl _ Tryd.underlying3 rfl (by rw [cell_of_row w' _ _ _ _ _ h]; rfl)) hS ?_
      simp only [Act.put, List.setIfInBounds_toArray, List.set_cons_zero, List.set_cons_succ]
      refine held_val 11 (some 30) rfl rfl (by kernel_rfl) (by kernel_rfl) (by kernel_rfl) noPanic_put rfl (.int .i64 D) (fun _ => by first | (go_simp; done) | (go_simp; omega)) hS ?_
      simp only [Act.put, List.setIfInBounds_toArray, List.set_cons_zero, List.set_cons_succ]
      refine held_val 12 (some 31) rfl rfl (by kernel_rfl) (by kernel_rfl) (by kernel_rfl) noPanic_put rfl (.int .i64 (D - 1)) (fun _ => by first | (go_simp; done) | (go_simp; omega)) hS ?_
      simp only [Act.put, List.setIfInBounds_toArray, List.set_cons_zero, List.set_cons_succ]
      have hDm : D - 1 = (d : Int) := HD1.out D HDD.out
      rw [hDm]
      refine held_call 5 (some 24) (by kernel_rfl) rfl rfl rfl 34 #[.slice (some ⟨g, 0, none⟩) cs.length cap, .int .i64 (A : Int), .int .i64 (d : Int)] (by go_simp) _ (IH.out A w1.drew hAi HB0.out.drew) ?_
      rintro e w2 ⟨rfl, hB2⟩
      have hB2' : Below w1.heap.size w1 w2 := ⟨hB2.os, hB2.tape, hB2.output, hB2.size, hB2.block⟩
      have hR2 := HRC.out.below hB2' (RowAt.lt HRC.out)
      have hBw2 := HB0.out.trans (hB2'.mono HB0.out.size)
      refine ⟨_, rfl, hR2, ?_⟩
      simp only [Act.put, List.setIfInBounds_toArray, List.set_cons_zero, List.set_cons_succ]
      obtain ⟨S1, hS1⟩ : ∃ S1, S1 = deepB cs d A := ⟨_, rfl⟩
      have hs1 : S1.size ≤ 30000 := by rw [hS1, deepB_size]; have := HLA.out; have := HZ.out; omega
      rw [← hS1]
      have HS1 := hideT' hS1
      clear hS1
      have hS := hR2
      have hz1 : (⟨#[40]⟩ : ByteArray).size + S1.size ≤ 9223372036854775807 := by show 1 + _ ≤ _; omega
      have hz2 : ((⟨#[40]⟩ : ByteArray) ++ S1).size + (⟨#[32]⟩ : ByteArray).size ≤ 9223372036854775807 := by rw [ByteArray.size_append]; show 1 + _ + 1 ≤ _; omega
      refine held_val 6 (some 25) rfl rfl (by kernel_rfl) (by kernel_rfl) (by kernel_rfl) noPanic_put rfl (.string ((⟨#[40]⟩ : ByteArray) ++ S1)) (fun _ => by first | (go_simp; done) | (go_simp; omega)) hS ?_
      simp only [Act.put, List.setIfInBounds_toArray, List.set_cons_zero, List.set_cons_succ]
      refine held_val 7 (some 26) rfl rfl (by kernel_rfl) (by kernel_rfl) (by kernel_rfl) noPanic_put rfl (.string ((⟨#[40]⟩ : ByteArray) ++ S1 ++ (⟨#[32]⟩ : ByteArray))) (fun _ => by first | (go_simp; done) | (go_simp; omega)) hS ?_
      simp only [Act.put, List.setIfInBounds_toArray, List.set_cons_zero, List.set_cons_succ]
      refine held_call 13 (some 32) (by kernel_rfl) rfl rfl rfl 34 #[.slice (some ⟨g, 0, none⟩) cs.length cap, .int .i64 (C : Int), .int .i64 (d : Int)] (by go_simp) _ (IH.out C w2 hCi hBw2) ?_
      rintro e w3 ⟨rfl, hB3⟩
      have hR3 := hR2.below hB3 (RowAt.lt hR2)
      have hBw3 := hBw2.trans (hB3.mono hBw2.size)
      refine ⟨_, rfl, hR3, ?_⟩
      simp only [Act.put, List.setIfInBounds_toArray, List.set_cons_zero, List.set_cons_succ]
      obtain ⟨S2, hS2⟩ : ∃ S2, S2 = deepB cs d C := ⟨_, rfl⟩
      have hs2 : S2.size ≤ 30000 := by rw [hS2, deepB_size]; have := HLB.out; have := HZ.out; omega
      rw [← hS2]
      have HS2 := hideT' hS2
      clear hS2
      have hS := hR3
      have hz3 : ((⟨#[40]⟩ : ByteArray) ++ S1 ++ (⟨#[32]⟩ : ByteArray)).size + S2.size ≤ 9223372036854775807 := by rw [ByteArray.size_append, ByteArray.size_append]; show 1 + _ + 1 + _ ≤ _; omega
      have hz4 : ((⟨#[40]⟩ : ByteArray) ++ S1 ++ (⟨#[32]⟩ : ByteArray) ++ S2).size + (⟨#[41]⟩ : ByteArray).size ≤ 9223372036854775807 := by rw [ByteArray.size_append, ByteArray.size_append, ByteArray.size_append]; show 1 + _ + 1 + _ + 1 ≤ _; omega
      refine held_val 14 (some 33) rfl rfl (by kernel_rfl) (by kernel_rfl) (by kernel_rfl) noPanic_put rfl (.string ((⟨#[40]⟩ : ByteArray) ++ S1 ++ (⟨#[32]⟩ : ByteArray) ++ S2)) (fun _ => by first | (go_simp; done) | (go_simp; omega)) hS ?_
      simp only [Act.put, List.setIfInBounds_toArray, List.set_cons_zero, List.set_cons_succ]
      refine held_val 15 (some 34) rfl rfl (by kernel_rfl) (by kernel_rfl) (by kernel_rfl) noPanic_put rfl (.string ((⟨#[40]⟩ : ByteArray) ++ S1 ++ (⟨#[32]⟩ : ByteArray) ++ S2 ++ (⟨#[41]⟩ : ByteArray))) (fun _ => by first | (go_simp; done) | (go_simp; omega)) hS ?_
      simp only [Act.put, List.setIfInBounds_toArray, List.set_cons_zero, List.set_cons_succ]
      refine held_assign 16 (some 6) (by kernel_rfl) rfl rfl _ rfl rfl (.string ((⟨#[40]⟩ : ByteArray) ++ S1 ++ (⟨#[32]⟩ : ByteArray) ++ S2 ++ (⟨#[41]⟩ : ByteArray))) rfl hS ?_
      simp only [Act.put, List.setIfInBounds_toArray, List.set_cons_zero, List.set_cons_succ]
      refine wpAnyH_done (by kernel_rfl) ?_ _
      refine NoPanic.normal ?_
      have HN : Hid (deepB cs (d + 1) i = (⟨#[40]⟩ : ByteArray) ++ S1 ++ (⟨#[32]⟩ : ByteArray) ++ S2 ++ (⟨#[41]⟩ : ByteArray)) := by
        unfold Hid; rw [HS1.out, HS2.out]; unfold deepB; rw [HP.out]; apply ByteArray.ext; apply Array.ext'; simp
      have HB3 := hideT' hBw3
      clear hR2 hR3 hS hB2 hB2' hB3 hBw2 hBw3 hz1 hz2 hz3 hz4
      go_wp2
      go_ret
      exact ⟨by rw [HN.out]; rfl, HB3.out⟩
end Go.Proofs.YtelciainidklgaaDoor
