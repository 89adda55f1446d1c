/-
  What spec.l1Num answers for every int: its text.
-/
import Derived.Test.YtmfpnbmfcoahbaaGreatDoorDec
import Derived.Test.YtmfpnbmfcoahbaaGreatDoorNum
import Derived.Lib.ItoaNum
namespace Go.Proofs.YtmfpnbmfcoahbaaGreatDoor
open Go.RowKit
set_option linter.unusedVariables false

/-- Two canonical texts of one number are one. -/
theorem canon_dec {s : ByteArray} {n : Nat} (hc : canonB s.data.toList = true) (hv : dval s.data.toList = n) : s = ⟨(Lib.decDigits n).toArray⟩ := by
  have hd := dec_canon n
  have := canon_inj hc hd.1 (by rw [hv, hd.2])
  apply ByteArray.ext
  rw [← this]
theorem num_size_all {s : ByteArray} {n : Nat} (hc : canonB s.data.toList = true) (hv : dval s.data.toList = n) (hn : n ≤ 9223372036854775807) : (s.size : Int) ≤ 19 := by
  have := (canon_len_le hc 19 (by omega)).2 (by rw [hv]; omega)
  have e : s.data.toList.length = s.size := by simp
  omega

set_option maxHeartbeats 400000 in
set_option maxRecDepth 100000 in
theorem l1NumNat_any (n : Nat) (hn : n ≤ 9223372036854775807) : ∀ w : World,
    Calls Tryz.prog 54 #[.int .i64 (n : Int)] w fun e w' => ∃ s : ByteArray, e = .returned (.string s) ∧ canonB s.data.toList = true ∧ dval s.data.toList = n ∧ Below w.heap.size w w' := by
  induction n using Nat.strongRecOn with
  | _ n ih =>
    intro w
    by_cases h10 : n < 10
    · refine (l1Num_small n w h10).mono ?_
      rintro e w' ⟨rfl, hW⟩
      have := db_dig n h10
      exact ⟨_, rfl, by simp [canonB, this.1], by simp [dval, this.2], hW⟩
    · have IH := ih (n / 10) (by omega) (by omega)
      obtain ⟨d, hd⟩ : ∃ d : Nat, d = n % 10 := ⟨_, rfl⟩
      obtain ⟨q, hq⟩ : ∃ q : Int, q = ((n / 10 : Nat) : Int) := ⟨_, rfl⟩
      obtain ⟨x, hx⟩ : ∃ x : Int, x = (n : Int) := ⟨_, rfl⟩
      have hd10 : d < 10 := by omega
      have hrem : x % 10 = (d : Int) := by omega
      have hquo : x / 10 = q := by omega
      have h0 : 0 ≤ x := by omega
      have h1 : 10 ≤ x := by omega
      have h2 : x ≤ 9223372036854775807 := by omega
      have htd : x.tdiv 10 = q := by rw [Int.tdiv_eq_ediv_of_nonneg h0]; omega
      have htm : x.tmod 10 = (d : Int) := by rw [Int.tmod_eq_emod_of_nonneg h0]; omega
      have hw1 : IntKind.i64.wrap q = q := by rw [IntKind.wrap_i64]; omega
      have hw2 : IntKind.i64.wrap (48 + (d : Int)) = 48 + (d : Int) := by rw [IntKind.wrap_i64]; omega
      have hw3 : IntKind.u8.wrap (48 + (d : Int)) = 48 + (d : Int) := by
        have : IntKind.u8.wrap (48 + (d : Int)) = (48 + (d : Int)) % 256 := by simp [IntKind.wrap, IntKind.signed, IntKind.bits]
        rw [this]; omega
      have hcv := fun (W : World) (b : Nat) => conv_at W b d hd10
      rw [← hq] at IH
      rw [← hx]
      have IH' : Hid (∀ w : World, Calls Tryz.prog 54 #[.int .i64 q] w fun e w' => ∃ s : ByteArray, e = .returned (.string s) ∧ canonB s.data.toList = true ∧ dval s.data.toList = n / 10 ∧ Below w.heap.size w w') := IH
      have HD : Hid (d = n % 10 ∧ ¬ n < 10) := ⟨hd, h10⟩
      have HN : Hid (n / 10 ≤ 9223372036854775807) := by unfold Hid; omega
      clear IH ih hd hn hq hx h10 h2 hquo hrem
      go_enter Tryz.func54, Tryz.ntmps54
      go_wp2_with fail
      go_region_with ((go_at_call 54; refine (IH'.out _).mono ?_; rintro e w1 ⟨s, rfl, hsc, hsv, hW1⟩; have hcl := fun (b o : Nat) h => hW1.cell (p := ⟨b, o, none⟩) h; have hWs := hW1.size; have hsl := num_size_all hsc hsv HN.out; have HS := hide2 hsc hsv; clear hsc hsv))
      all_goals
        go_wp2
        go_ret
        obtain ⟨hsc, hsv⟩ := HS.out
        obtain ⟨hd1, hd2⟩ := HD.out
        have hdd := db_dig d hd10
        have hcat : (s ++ ⟨#[db d]⟩ : ByteArray).data.toList = s.data.toList ++ [db d] := by simp
        refine ⟨_, rfl, ?_, ?_, ?_⟩
        · rw [hcat]; exact canon_append hsc (by rw [hsv]; omega) (by simp [hdd.1])
        · rw [hcat, dval_snoc, hsv, hdd.2]; omega
        · first
          | exact Below.alloc (show Below w.heap.size w w1 from ⟨hW1.os, hW1.tape, hW1.output, hW1.size, hW1.block⟩) hWs _
          | exact Below.trans (b := (w.alloc (.cells #[.int .u8 (48 + (d : Int))] 5)).drew) (((Below.refl _ _).alloc (Nat.le_refl _) _).drew) (hW1.mono (by simp))

/-- The bytes of an int's text. -/
def numB (n : Int) : ByteArray := ⟨(Lib.itoa n).toArray⟩
theorem numB_data (n : Int) : (numB n).data.toList = Lib.itoa n := by simp [numB]
theorem itoa_nat (n : Nat) : Lib.itoa (n : Int) = Lib.decDigits n := by
  unfold Lib.itoa; rw [if_neg (by omega)]; simp
theorem numB_nat_size (n : Nat) (hn : n ≤ 9223372036854775808) : (numB (n : Int)).size ≤ 19 := by
  have hd := dec_canon n
  have := (canon_len_le hd.1 19 (by omega)).2 (by rw [hd.2]; omega)
  show (Lib.itoa (n : Int)).toArray.size ≤ 19
  rw [itoa_nat]
  simpa using this

theorem l1NumN_any (n : Nat) (hn : n ≤ 9223372036854775807) (w : World) :
    Calls Tryz.prog 54 #[.int .i64 (n : Int)] w fun e w' => e = .returned (.string (numB (n : Int))) ∧ Below w.heap.size w w' := by
  refine (l1NumNat_any n hn w).mono ?_
  rintro e w' ⟨s, rfl, hc, hv, hW⟩
  refine ⟨?_, hW⟩
  rw [canon_dec hc hv]
  unfold numB
  rw [itoa_nat]
end Go.Proofs.YtmfpnbmfcoahbaaGreatDoor
