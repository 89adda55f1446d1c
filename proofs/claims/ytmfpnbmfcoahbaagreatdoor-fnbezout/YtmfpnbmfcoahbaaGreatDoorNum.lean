/-
  What spec.l1Num answers for numbers below ten thousand.
-/
import Derived.Test.YtmfpnbmfcoahbaaGreatDoorDec
import Derived.Test.YtmfpnbmfcoahbaaGreatDoorPkGood
import Derived.Laws.IdiomStrings
import Derived.Deep.RegionWith
namespace Go.Proofs.YtmfpnbmfcoahbaaGreatDoor
open Go.RowKit
set_option linter.unusedVariables false

theorem hide2 {p q : Prop} (h : p) (g : q) : Hid (p ∧ q) := ⟨h, g⟩

theorem num_size {s : ByteArray} {n : Nat} (hc : canonB s.data.toList = true) (hv : dval s.data.toList = n) (hn : n < 10000) : (s.size : Int) ≤ 4 := by
  have := (canon_len_le hc 4 (by omega)).2 (by rw [hv]; omega)
  have e : s.data.toList.length = s.size := by simp
  omega

/-- The byte of a digit. -/
def db (d : Nat) : UInt8 := UInt8.ofNat (48 + d)
theorem db_dig (d : Nat) (h : d < 10) : isDig (db d) = true ∧ dv (db d) = d := dig_ofNat d h
theorem db_nat (d : Nat) (h : d < 10) : ((db d).toNat : Int) = 48 + (d : Int) := by
  unfold db; have : (UInt8.ofNat (48 + d)).toNat = 48 + d := by simp; omega
  omega

/-- string of one byte that lies in memory. -/
theorem conv_at (W : World) (b : Nat) (d : Nat) (hd : d < 10) (hc : W.cell? ⟨b, 0, none⟩ = some (.int .u8 (48 + (d : Int)))) :
    (convert 22 9 (.slice (some ⟨b, 0, none⟩) 1 1)).run Tryz.prog W = .ok (.string ⟨#[db d]⟩) W :=
  run_convert_bytes_back (P := Tryz.prog) W 22 9 5 ⟨b, 0, none⟩ 1 [db d] Tryz.underlying22 Tryz.underlying5 Tryz.underlying9 (fun j hj => by
    have : j = 0 := by simp at hj; exact hj
    subst this
    simp only [List.getElem_cons_zero, db_nat d hd]
    simpa [Addr.add] using hc)

theorem conv_new (w : World) (d : Nat) (hd : d < 10) :
    (convert 22 9 (.slice (some ⟨w.heap.size, 0, none⟩) 1 1)).run Tryz.prog (w.alloc (.cells #[.int .u8 (48 + (d : Int))] 5)) = .ok (.string ⟨#[db d]⟩) (w.alloc (.cells #[.int .u8 (48 + (d : Int))] 5)) :=
  conv_at _ _ d hd (by simp)

set_option maxHeartbeats 400000 in
set_option maxRecDepth 100000 in
theorem l1Num_small (d : Nat) (w : World) (hd : d < 10) :
    Calls Tryz.prog 54 #[.int .i64 (d : Int)] w fun e w' => e = .returned (.string ⟨#[db d]⟩) ∧ Below w.heap.size w w' := by
  have hc := conv_new w d hd
  have h0 : (0 : Int) ≤ (d : Int) := by omega
  have h1 : (d : Int) < 10 := by omega
  go_enter Tryz.func54, Tryz.ntmps54
  go_wp2
  go_ret
  exact ⟨rfl, (Below.refl _ _).alloc (Nat.le_refl _) _⟩

set_option maxHeartbeats 400000 in
set_option maxRecDepth 100000 in
theorem l1Num_any (n : Nat) (hn : n < 10000) : ∀ w : World,
    Calls Tryz.prog 54 #[.int .i64 (n : Int)] w fun e w' => ∃ s : ByteArray, e = .returned (.string s) ∧ canonB s.data.toList = true ∧ dval s.data.toList = n ∧ Below w.heap.size w w' := by
  induction n using Nat.strongRecOn with
  | _ n ih =>
    intro w
    by_cases h10 : n < 10
    · refine (l1Num_small n w h10).mono ?_
      rintro e w' ⟨rfl, hW⟩
      have := db_dig n h10
      exact ⟨_, rfl, by simp [canonB, this.1], by simp [dval, this.2], hW⟩
    · have IH := ih (n / 10) (by omega) (by omega)
      obtain ⟨d, hd⟩ : ∃ d : Nat, d = n % 10 := ⟨_, rfl⟩
      obtain ⟨q, hq⟩ : ∃ q : Int, q = ((n / 10 : Nat) : Int) := ⟨_, rfl⟩
      obtain ⟨x, hx⟩ : ∃ x : Int, x = (n : Int) := ⟨_, rfl⟩
      have hd10 : d < 10 := by omega
      have hrem : x % 10 = (d : Int) := by omega
      have hquo : x / 10 = q := by omega
      have h0 : 0 ≤ x := by omega
      have h1 : 10 ≤ x := by omega
      have h2 : x < 10000 := by omega
      have htd : x.tdiv 10 = q := by rw [Int.tdiv_eq_ediv_of_nonneg h0]; omega
      have htm : x.tmod 10 = (d : Int) := by rw [Int.tmod_eq_emod_of_nonneg h0]; omega
      have hw1 : IntKind.i64.wrap q = q := by rw [IntKind.wrap_i64]; omega
      have hw2 : IntKind.i64.wrap (48 + (d : Int)) = 48 + (d : Int) := by rw [IntKind.wrap_i64]; omega
      have hw3 : IntKind.u8.wrap (48 + (d : Int)) = 48 + (d : Int) := by
        have : IntKind.u8.wrap (48 + (d : Int)) = (48 + (d : Int)) % 256 := by simp [IntKind.wrap, IntKind.signed, IntKind.bits]
        rw [this]; omega
      have hcv := fun (W : World) (b : Nat) => conv_at W b d hd10
      rw [← hq] at IH
      rw [← hx]
      have IH' : Hid (∀ w : World, Calls Tryz.prog 54 #[.int .i64 q] w fun e w' => ∃ s : ByteArray, e = .returned (.string s) ∧ canonB s.data.toList = true ∧ dval s.data.toList = n / 10 ∧ Below w.heap.size w w') := IH
      have HD : Hid (d = n % 10 ∧ ¬ n < 10) := ⟨hd, h10⟩
      have HN : Hid (n / 10 < 10000) := by unfold Hid; omega
      clear IH ih hd hn hq hx h10
      go_enter Tryz.func54, Tryz.ntmps54
      go_wp2_with fail
      go_region_with ((go_at_call 54; refine (IH'.out _).mono ?_; rintro e w1 ⟨s, rfl, hsc, hsv, hW1⟩; have hcl := fun (b o : Nat) h => hW1.cell (p := ⟨b, o, none⟩) h; have hWs := hW1.size; have hsl := num_size hsc hsv HN.out; have HS := hide2 hsc hsv; clear hsc hsv))
      all_goals
        go_wp2
        go_ret
        obtain ⟨hsc, hsv⟩ := HS.out
        obtain ⟨hd1, hd2⟩ := HD.out
        have hdd := db_dig d hd10
        have hcat : (s ++ ⟨#[db d]⟩ : ByteArray).data.toList = s.data.toList ++ [db d] := by simp
        refine ⟨_, rfl, ?_, ?_, ?_⟩
        · rw [hcat]; exact canon_append hsc (by rw [hsv]; omega) (by simp [hdd.1])
        · rw [hcat, dval_snoc, hsv, hdd.2]; omega
        · first
          | exact Below.alloc (show Below w.heap.size w w1 from ⟨hW1.os, hW1.tape, hW1.output, hW1.size, hW1.block⟩) hWs _
          | exact Below.trans (b := (w.alloc (.cells #[.int .u8 (48 + (d : Int))] 5)).drew) (((Below.refl _ _).alloc (Nat.le_refl _) _).drew) (hW1.mono (by simp))

end Go.Proofs.YtmfpnbmfcoahbaaGreatDoor
