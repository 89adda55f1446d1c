/-
  The law FnFactors: its walk.
-/
import Derived.Test.YtmfpnbmfcoahbaaDoorLaidFac
import Derived.Test.YtmfpnbmfcoahbaaDoorDrawFac
import Derived.Test.YtmfpnbmfcoahbaaDoorImplFac
import Derived.Test.YtmfpnbmfcoahbaaDoorPkImplMul
import Derived.Test.YtmfpnbmfcoahbaaDoorPkHeld
namespace Go.Proofs.YtmfpnbmfcoahbaaDoor
open Go.RowKit
set_option linter.unusedVariables false

/-- A factor's text. -/
structure FacT (F : List Nat) (k f : Nat) (s : ByteArray) : Prop where
  at' : f = F.getD k 0
  one : fac 2 f = [f]
  tx : Tx s f
  lt : f < 10 ^ 600
  ok : facOk s = true
  num : s = numB (f : Int)
  prod : prodN (F.take (k + 1)) = prodN (F.take k) * f
  small : s.size ≤ 1000
theorem facT_of {F : List Nat} {k : Nat} (h : fac 2 (F.getD k 0) = [F.getD k 0] ∧ 2 ≤ F.getD k 0 ∧ F.getD k 0 ≤ 1000000000000 ∧ prodN (F.take (k + 1)) = prodN (F.take k) * F.getD k 0) {f : Nat} (hf : f = F.getD k 0) {s : ByteArray} (hs : s = numB (f : Int)) : FacT F k f s := by
  rw [← hf] at h
  obtain ⟨h1, h2, h3, h4⟩ := h
  have ht : Tx s f := by rw [hs]; exact numTx f
  have hl : f < 10 ^ 600 := e12 (k := 600) h3 (by decide)
  have hz : s.size ≤ 600 := canon_size (k := 600) (by decide) ht.1 ht.2 hl
  refine ⟨hf, h1, ht, hl, ?_, hs, h4, by omega⟩
  unfold facOk
  rw [fa_good ht hl, ht.2, decide_eq_true h2, decide_eq_true h3]; rfl

set_option maxHeartbeats 8000000 in
set_option maxRecDepth 100000 in
theorem factors_walk (l0 : List Int) (v0 : Value) (w : World) (h0 : Code w v0 l0) (hT : Tab w.heap.size w) (hE : EV w) :
    Calls Tryd.prog 5 #[v0] w fun e w' => e = .returned (.bool true) ∧ Below w.heap.size w w' := by
  have HC := hideT' h0
  obtain ⟨o0, c0, rfl⟩ := h0.1.len
  have HT := hideT' hT
  have HE := hideT' hE
  clear h0 hT hE
  go_enter Tryd.func5, Tryd.ntmps5
  by_cases hlong : (1048576 : Int) < (l0.length : Int)
  · go_wp2
    go_ret
    exact ⟨rfl, Below.refl _ _⟩
  go_wp2_with fail
  refine (drawFactor_any _ l0 w HC.out).mono ?_
  rintro e w1 ⟨⟨a, rfl, ha⟩, hB1⟩
  have HA := hideT' ha
  have HI := hideT' (implFactor_any a w1 (by omega) ((HT.out.on hB1).up hB1.size) (HE.out.below hB1))
  clear ha
  go_wp2_with fail
  refine HI.out.mono ?_
  rintro e w2 ⟨hA2, hB2⟩
  have hV2 := hB1.trans (hB2.mono hB1.size)
  clear HI hB1 hB2
  cases hok : facOk a with
  | false =>
    have HOK := hideT' hok
    obtain rfl := facNo hA2 hok
    clear hA2 hok
    go_wp2_with fail
    refine (specFactor_any a w2 (fa_small HA.out)).mono ?_
    rintro e w3 ⟨hA3, hB3⟩
    obtain rfl := facNo hA3 HOK.out
    have hV3 := hV2.trans (hB3.mono hV2.size)
    clear hA3 hV2 hB3
    go_wp2
    go_ret
    exact ⟨rfl, hV3⟩
  | true =>
    have HOK := hideT' (And.intro hok (facOk_bd hok))
    obtain ⟨F, hF⟩ : ∃ F, F = fac 2 (dval a.data.toList) := ⟨_, rfl⟩
    obtain ⟨b1, c1, rfl, hlt1, hc1⟩ := facYes hA2 hok hF
    have HF := hideT' (And.intro hF (fac_law HOK.out.2.2.1 HOK.out.2.2.2 hF))
    have hn40 := HF.out.2.2.1
    obtain ⟨n, hn⟩ : ∃ n, n = F.length := ⟨_, rfl⟩
    rw [← hn] at hc1 hn40 ⊢
    have HN := hideT' hn
    have HCL : Hid (∀ w', Below w2.heap.size w2 w' → ∀ j, j < n → w'.cell? ⟨b1, j, none⟩ = some (.string (numB ((F.getD j 0 : Nat) : Int)))) := fun w' h j hj => by rw [h.cell (p := ⟨b1, j, none⟩) hlt1]; exact hc1 j hj
    clear hA2 hok hF hlt1 hc1 hn
    go_wp2_with fail
    refine (specFactor_any a w2 (fa_small HA.out)).mono ?_
    rintro e w3 ⟨hA3, hB3⟩
    obtain ⟨b2, c2, rfl, _, _⟩ := facYes hA3 HOK.out.1 HF.out.1
    rw [← HN.out]
    have HB3 := hideT' hB3
    have HV3 := hideT' (hV2.trans (hB3.mono hV2.size))
    clear hA3 hV2 hB3
    go_wp2_with fail
    go_loopg [8, 46] n (fun g vp vi wr => ∃ (k : Nat) (t : ByteArray), g = n - k ∧ k ≤ n ∧ vp = .string t ∧ vi = .int .i64 (k : Int) ∧ Hid (Tx t (prodN (F.take k))) ∧ Hid (Below w3.heap.size w3 wr))
    case atStart => exact ⟨0, ⟨#[49]⟩, rfl, by omega, rfl, by go_num, ⟨by decide, by rw [List.take_zero]; decide⟩, Below.refl _ _⟩
    case round =>
      obtain ⟨k, t, hg2, hk2, rfl, rfl, HX, HBr⟩ := hrel
      by_cases hlt : (k : Int) < (n : Int)
      · have hk' : k < n := by omega
        have HVr := hideT' (HV3.out.trans (HBr.out.mono HV3.out.size))
        have HBr2 := hideT' (HB3.out.trans (HBr.out.mono HB3.out.size))
        have cf := HCL.out wr HBr2.out k hk'
        obtain ⟨f, hf⟩ : ∃ f, f = F.getD k 0 := ⟨_, rfl⟩
        rw [← hf] at cf
        obtain ⟨fs, hfs⟩ : ∃ fs, fs = numB (f : Int) := ⟨_, rfl⟩
        rw [← hfs] at cf
        have HP := hideT' (facT_of (HF.out.2.2.2.2.2.1 k (by have := HN.out; omega)) hf hfs)
        have HXl := hideT' (e12 (k := 600) (HF.out.2.2.2.2.1 k) (by decide))
        have HXl2 := hideT' (e12 (k := 600) (HF.out.2.2.2.2.1 (k + 1)) (by decide))
        have HI := hideT' (implFactor_any fs wr (Nat.le_trans HP.out.small (by decide)) ((HT.out.on HVr.out).up HVr.out.size) (HE.out.below HVr.out))
        clear hf hfs
        go_wp2_with fail
        refine HI.out.mono ?_
        rintro e w4 ⟨hA4, hB4⟩
        obtain ⟨b4, c4, rfl, hl4, hc4⟩ := facOne hA4 HP.out.ok HP.out.tx.2 HP.out.one HP.out.num
        have HB4 := hideT' hB4
        have HV4 := hideT' (HVr.out.trans (hB4.mono HVr.out.size))
        have HBw4 := hideT' (HBr.out.trans (hB4.mono HBr.out.size))
        clear HI hA4 hB4 cf
        by_cases hk0 : (0 : Int) < (k : Int)
        · obtain ⟨j, hj⟩ : ∃ j : Nat, (k : Int) - 1 = (j : Int) := ⟨k - 1, by omega⟩
          have hw : IntKind.i64.wrap ((k : Int) - 1) = (j : Int) := by rw [IntKind.wrap_i64]; omega
          have hjn : j < n := by omega
          have HJ : Hid (j < k) := by unfold Hid; omega
          have cp := HCL.out w4 (HBr2.out.trans (HB4.out.mono HBr2.out.size)) j hjn
          obtain ⟨f0, hf0⟩ : ∃ f0, f0 = F.getD j 0 := ⟨_, rfl⟩
          rw [← hf0] at cp
          obtain ⟨ps, hps⟩ : ∃ ps, ps = numB (f0 : Int) := ⟨_, rfl⟩
          rw [← hps] at cp
          have HQ := hideT' (facT_of (HF.out.2.2.2.2.2.1 j (by have := HN.out; omega)) hf0 hps)
          have HLE : Hid (f0 ≤ f) := by
            have := HF.out.2.2.2.2.2.2 j k (by have := HN.out; omega) HJ.out
            unfold Hid; rw [HP.out.at', hf0]; exact this
          clear hj hf0 hps
          go_wp2_with fail
          refine (implCompare_any ps fs w4 (fa_small HQ.out.small) (fa_small HP.out.small)).mono ?_
          rintro e w5 ⟨he, hB5⟩
          rw [← cmpAns_yes (by rw [fa_good HQ.out.tx HQ.out.lt, fa_good HP.out.tx HP.out.lt]; rfl), HQ.out.tx.2, HP.out.tx.2] at he
          subst he
          obtain ⟨z, hz⟩ : ∃ z, z = cmpI (f0 : Int) (f : Int) := ⟨_, rfl⟩
          have hz0 : z ≤ 0 := by
            have := HLE.out
            rw [hz]; unfold cmpI
            split <;> (try split) <;> omega
          rw [← hz]
          have hc5 : w5.cell? ⟨b4, 0, none⟩ = some (.string fs) := by rw [hB5.cell (p := ⟨b4, 0, none⟩) hl4]; exact hc4
          have HV5 := hideT' (HV4.out.trans (hB5.mono HV4.out.size))
          have HBw5 := hideT' (HBw4.out.trans (hB5.mono HBw4.out.size))
          clear hz hc4 cp hw hB5
          go_wp2_with fail
          refine (implMul_any t fs w5 (fa_small (Nat.le_trans (canon_size (k := 600) (by decide) HX.out.1 HX.out.2 HXl.out) (by decide))) (fa_small HP.out.small) ((HT.out.on HV5.out).up HV5.out.size)).mono ?_
          rintro e w6 ⟨hA6, hB6⟩
          rw [HX.out.2, HP.out.tx.2, ← HP.out.prod] at hA6
          obtain ⟨p, rfl, tp⟩ := fa_told hA6 (by rw [fa_good HX.out HXl.out, fa_good HP.out.tx HP.out.lt]; rfl) HXl2.out
          have HTP := hideT' tp
          have HBw6 := hideT' (HBw5.out.trans (hB6.mono HBw5.out.size))
          clear hA6 tp hB6 hc5
          go_wp2
          go_roundg (n - (k + 1))
          case measure => omega
          case rel => exact ⟨k + 1, p, rfl, by omega, rfl, by go_num, HTP.out, HBw6.out⟩
        · go_wp2_with fail
          refine (implMul_any t fs w4 (fa_small (Nat.le_trans (canon_size (k := 600) (by decide) HX.out.1 HX.out.2 HXl.out) (by decide))) (fa_small HP.out.small) ((HT.out.on HV4.out).up HV4.out.size)).mono ?_
          rintro e w6 ⟨hA6, hB6⟩
          rw [HX.out.2, HP.out.tx.2, ← HP.out.prod] at hA6
          obtain ⟨p, rfl, tp⟩ := fa_told hA6 (by rw [fa_good HX.out HXl.out, fa_good HP.out.tx HP.out.lt]; rfl) HXl2.out
          have HTP := hideT' tp
          have HBw6 := hideT' (HBw4.out.trans (hB6.mono HBw4.out.size))
          clear hA6 tp hB6 hc4
          go_wp2
          go_roundg (n - (k + 1))
          case measure => omega
          case rel => exact ⟨k + 1, p, rfl, by omega, rfl, by go_num, HTP.out, HBw6.out⟩
      · have hkk : k = n := by omega
        have hX := HX.out
        rw [hkk, HN.out, List.take_length, HF.out.2.2.2.1] at hX
        obtain rfl : t = a := WideShapes.bytes_inj (canon_inj hX.1 (good_canon HOK.out.2.1) hX.2)
        have hVz := HV3.out.trans (HBr.out.mono HV3.out.size)
        clear hX hkk
        go_wp2
        go_ret
        exact ⟨rfl, hVz⟩
end Go.Proofs.YtmfpnbmfcoahbaaDoor
