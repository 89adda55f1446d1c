/-
  What impl.PowNat answers.
-/
import Derived.Test.YtnjfmjpbfidboaaDoorSpecPow
import Derived.Test.YtnjfmjpbfidboaaDoorImplAdd
import Derived.Test.YtnjfmjpbfidboaaDoorText
import Derived.Test.YtnjfmjpbfidboaaDoorNatOf
import Derived.Test.YtnjfmjpbfidboaaDoorTimes
namespace Go.Proofs.YtnjfmjpbfidboaaDoor
open Go.RowKit
set_option linter.unusedVariables false

set_option maxHeartbeats 1000000 in
set_option maxRecDepth 100000 in
theorem implPow_any (a : ByteArray) (n : Int) (w : World) (hsa : a.size ≤ maxLen) (hT : Tab w.heap.size w) :
    Calls Tryd.prog 22 #[.string a, .int .i64 n] w fun e w' => Ans (powOk a n) (dval a.data.toList ^ n.toNat) e ∧ Below w.heap.size w w' := by
  have hz := zero_nat.1
  have HT : Hid (Tab w.heap.size w) := hT
  clear hT
  go_enter Tryd.func22, Tryd.ntmps22
  go_wp2_with fail
  refine (readNat_any a _ hsa).mono ?_
  rintro e w1 ⟨k, p, oa, rfl, hRa, hW1⟩
  have hp := hRa.len
  have hs1 := hW1.size
  have A := NatAt.new w1 0 zP
  have hB : Below w.heap.size w (w1.alloc (.cells (natC 0 zP) 33)) := hW1.alloc (by omega) _
  have hok : oa = goodB a.data.toList := hRa.ok
  cases hg : oa with
  | true =>
    subst hg
    have hga : goodB a.data.toList = true := hok.symm
    by_cases hn : 0 ≤ n ∧ n ≤ 2000
    · obtain ⟨N, rfl⟩ : ∃ N : Nat, n = (N : Int) := ⟨n.toNat, by omega⟩
      have HOK : Hid (powOk a (N : Int) = true) := by unfold Hid powOk; rw [hga]; simp; omega
      have hN : (N : Int) ≤ 2000 := hn.2
      have ra : Rep (dval a.data.toList) k p := hRa.rep hga
      have hk := ra.small (good_lt hga)
      have RA := hideT ra
      clear hga ra hn hok hRa
      go_wp2_with (refine store_nat rfl _ _ rfl rfl w1.heap.size k p rfl rfl 0 zP A zP_len hp ?_; intro w2 hN2 hg2 hs2)
      refine (natOf_any 1 1 w2 rfl (by omega) (by omega)).mono ?_
      rintro e w3 ⟨i, r, rfl, hR, hW3⟩
      have hr := hR.len
      have hi := hR.small (one_lt_ten 600 (by decide))
      have HR := hideT hR
      have hs2' : w2.heap.size = w1.heap.size + 1 := by rw [hs2]; simp
      have hB2 : Below w.heap.size w w2 := hB.grown hg2 (by simp; omega) (by intro k hk; cases hk; omega)
      have hA3 := hN2.below hW3 (by omega)
      have hB3 : Below w.heap.size w w3 := hB2.trans (hW3.mono (by have := hB2.size; omega))
      have hs3 := hW3.size
      have F := NatAt.new w3 0 zP
      clear hR A hB hN2 hg2 hs2 hB2 hW3
      go_wp2_with (refine store_nat rfl _ _ rfl rfl w3.heap.size i r rfl rfl 0 zP F zP_len hr ?_; intro w4 hN4 hg4 hs4)
      have hs4' : w4.heap.size = w3.heap.size + 1 := by rw [hs4]; simp
      have hA4 := (hA3.old (.cells (natC 0 zP) 33)).grown hg4 (by simp; omega)
      have hB4 : Below w.heap.size w w4 := (hB3.alloc (by omega) _).grown hg4 (by simp; omega) (by intro k hk; cases hk; omega)
      have HR0 : Hid (Rep (dval a.data.toList ^ 0) i r) := by unfold Hid; rw [Nat.pow_zero]; exact HR.out
      clear hA3 hB3 F hg4 hs4 HR
      go_loopg [26] N (fun g x wr => ∃ (j kc : Nat) (pc : List Int), g = N - j ∧ j ≤ N ∧ x = .int .i64 (j : Int) ∧ Hid (Rep (dval a.data.toList ^ j) kc pc) ∧ kc ≤ 100 ∧ pc.length = 204 ∧ NatAt wr w1.heap.size k p ∧ NatAt wr w3.heap.size kc pc ∧ Below w.heap.size w wr)
      case atStart => exact ⟨0, i, r, rfl, by omega, rfl, HR0, hi, hr, hA4, hN4, hB4⟩
      case round =>
        obtain ⟨j, kc, pc, rfl, hj, rfl, HC, hkc, hpc, hA, hP, hW⟩ := hrel
        clear hA4 hN4 hB4 HR0
        have hWs := hW.size
        have lA := hA.lt
        have lP := hP.lt
        by_cases hlt : (j : Int) < (N : Int)
        · go_wp2_with (first | (refine load_nat rfl _ rfl w1.heap.size rfl k p hA hp ?_) | (refine load_nat rfl _ rfl w3.heap.size rfl kc pc hP hpc ?_))
          refine (times_any wr HC.out RA.out hkc hk).mono ?_
          rintro e w5 ⟨i2, r2, rfl, hR2, hW5⟩
          have hr2 := hR2.len
          rw [← Nat.pow_succ] at hR2
          have HR2 := hideT hR2
          have hA5 := hA.below hW5 (by omega)
          have hP5 := hP.below hW5 (by omega)
          have hW5' : Below w.heap.size w w5 := hW.trans (hW5.mono (by omega))
          have hs5 := hW5.size
          clear hR2 hA hP hW hW5 HC
          go_wp2_with (first | (refine store_nat rfl _ _ rfl rfl w3.heap.size i2 r2 rfl rfl kc pc hP5 hpc hr2 ?_; intro w6 hN6 hg6 hs6) | (refine load_nat rfl _ rfl w3.heap.size rfl i2 r2 hN6 hr2 ?_))
          refine (fits_any i2 r2 w6).mono ?_
          rintro e w7 ⟨rfl, hW7⟩
          have hA6 := hA5.grown hg6 (by simp; omega)
          have hW6 : Below w.heap.size w w6 := hW5'.grown hg6 (by omega) (by intro k hk; cases hk; omega)
          have hA7 := hA6.below hW7 (by omega)
          have hP7 := hN6.below hW7 (by omega)
          have hW7' : Below w.heap.size w w7 := hW6.trans (hW7.mono (by omega))
          clear hA5 hP5 hW5' hN6 hg6 hA6 hW6 hW7
          by_cases hf : i2 ≤ 100
          · rw [decide_eq_true hf]
            go_wp2
            go_roundg (N - (j + 1))
            case measure => omega
            case rel => exact ⟨j + 1, i2, r2, rfl, by omega, by go_num, HR2, hf, hr2, hA7, hP7, hW7'⟩
          · rw [decide_eq_false hf]
            have HA : Hid (Ans (powOk a (N : Int)) (dval a.data.toList ^ (N : Int).toNat) (.returned (.tuple #[.string ⟨#[]⟩, .bool false]))) := by
              have hbig : ¬ dval a.data.toList ^ N < 10 ^ 600 := pow_big_of _ (one_lt_ten 600 (by decide)) (fun h => hf (HR2.out.fits.2 h)) (by omega)
              refine .inl ⟨HOK.out, ⟨#[]⟩, ?_, fun h => absurd h (by rw [Int.toNat_natCast]; exact hbig), fun _ => rfl⟩
              rw [Int.toNat_natCast, decide_eq_false hbig]
            go_wp2
            go_ret2
            exact ⟨HA.out, hW7'⟩
        · have hjN : j = N := by omega
          subst hjN
          have HT2 : Hid (Tab wr.heap.size wr) := (HT.out.on hW).up hWs
          go_wp2_with (refine load_nat rfl _ rfl w3.heap.size rfl kc pc hP hpc ?_)
          refine (tellNat_any wr HC.out HT2.out).mono ?_
          rintro e w5 ⟨s, rfl, h1, h2, hW5⟩
          obtain ⟨bb, hbb⟩ : ∃ bb, bb = decide (dval a.data.toList ^ j < 10 ^ 600) := ⟨_, rfl⟩
          rw [← hbb]
          have HA : Hid (Ans (powOk a (j : Int)) (dval a.data.toList ^ (j : Int).toNat) (.returned (.tuple #[.string s, .bool bb]))) :=
            .inl ⟨HOK.out, s, by rw [Int.toNat_natCast, hbb], fun h => h1 (by rw [Int.toNat_natCast] at h; exact h), fun h => h2 (by rw [Int.toNat_natCast] at h; exact h)⟩
          clear hbb h1 h2
          go_wp2
          go_ret2
          exact ⟨HA.out, hW.trans (hW5.mono hWs)⟩
    · have HA : Hid (Ans (powOk a n) (dval a.data.toList ^ n.toNat) (.returned (.tuple #[.string ⟨#[]⟩, .bool false]))) := .inr ⟨by unfold powOk; rw [hga]; simp; omega, rfl⟩
      have hn' : n < 0 ∨ 2000 < n := by omega
      clear hn hga hok hRa
      rcases hn' with hn | hn
      all_goals
        go_wp2_with (refine store_nat rfl _ _ rfl rfl w1.heap.size k p rfl rfl 0 zP A zP_len hp ?_; intro w2 hN2 hg2 hs2)
        go_ret2
        exact ⟨HA.out, hB.grown hg2 (by simp; omega) (by intro k hk; cases hk; omega)⟩
  | false =>
    subst hg
    have HA : Hid (Ans (powOk a n) (dval a.data.toList ^ n.toNat) (.returned (.tuple #[.string ⟨#[]⟩, .bool false]))) := .inr ⟨by unfold powOk; rw [← hok]; rfl, rfl⟩
    clear hok hRa
    go_wp2_with (refine store_nat rfl _ _ rfl rfl w1.heap.size k p rfl rfl 0 zP A zP_len hp ?_; intro w2 hN2 hg2 hs2)
    go_ret2
    exact ⟨HA.out, hB.grown hg2 (by simp; omega) (by intro k hk; cases hk; omega)⟩
end Go.Proofs.YtnjfmjpbfidboaaDoor
