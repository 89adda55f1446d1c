/-
  The law FnNats: its walk.
-/
import Derived.Test.YtnlegofckpbncaaDoorLaid
import Derived.Test.YtnlegofckpbncaaDoorNatsMath
import Derived.Test.YtnlegofckpbncaaDoorDrawNats
namespace Go.Proofs.YtnlegofckpbncaaDoor
open Go.RowKit
set_option linter.unusedVariables false

theorem small_max {s : ByteArray} (h : s.size ≤ 1000) : s.size ≤ maxLen := by unfold maxLen; omega
theorem good_max {s : ByteArray} (h : goodB s.data.toList = true) : s.size ≤ maxLen := by
  have := good_len h
  have e : s.data.toList.length = s.size := by simp
  unfold maxLen; omega

theorem ans_some {g : Bool} {n : Nat} {e : Ending} (h : Ans g n e) (hg : g = true) (hn : n < 10 ^ 600) : ∃ s : ByteArray, e = .returned (.tuple #[.string s, .bool true]) ∧ goodB s.data.toList = true ∧ dval s.data.toList = n := by
  rcases h with ⟨_, t, rfl, h1, _⟩ | ⟨g1, _⟩
  · exact ⟨t, by rw [decide_eq_true hn], good_of (h1 hn).1 (h1 hn).2 hn, (h1 hn).2⟩
  · rw [hg] at g1; cases g1
theorem radix_back {c t : ByteArray} {n : Int} (h : AnsR c n (.returned (.tuple #[.string t, .bool true]))) (ht : t.size ≤ 2000) : ofOk t n = true ∧ goodB c.data.toList = true ∧ dval c.data.toList = rval n.toNat t.data.toList := by
  rcases h with ⟨g, u, e, hI⟩ | ⟨_, h⟩
  · simp only [Ending.returned.injEq, Value.tuple.injEq, Array.mk.injEq, List.cons.injEq, Value.string.injEq, and_true] at e
    subst e
    rw [Bool.and_eq_true] at g
    obtain ⟨r1, r2, r3⟩ := rad_nat' g.2
    obtain ⟨b1, b2, b3⟩ := rad_back (show 2 ≤ n.toNat by omega) (show n.toNat ≤ 16 by omega) hI
    refine ⟨?_, g.1, b1.symm⟩
    unfold ofOk
    rw [g.2, b2, decide_eq_true b3, decide_eq_true ht]; rfl
  · unfold Mute at h
    simp at h

set_option maxHeartbeats 8000000 in
set_option maxRecDepth 100000 in
theorem nats_walk (l0 l1 : List Int) (v0 v1 : Value) (w : World) (h0 : Code w v0 l0) (h1 : Code w v1 l1) (hT : Tab w.heap.size w) :
    Calls Tryd.prog 3 #[v0, v1] w fun e w' => e = .returned (.bool true) ∧ Below w.heap.size w w' := by
  have HC := hideT' (And.intro h0 h1)
  obtain ⟨o0, c0, rfl⟩ := h0.1.len
  obtain ⟨o1, c1, rfl⟩ := h1.1.len
  have HT := hideT' hT
  clear h0 h1 hT
  go_enter Tryd.func3, Tryd.ntmps3
  by_cases hlong : (1048576 : Int) < wrap64 ((l0.length : Int) + (l1.length : Int))
  · go_wp2
    go_ret
    exact ⟨rfl, Below.refl _ _⟩
  go_wp2_with fail
  refine (drawAddNat_any _ l0 w HC.out.1).mono ?_
  rintro e w1 ⟨⟨a, b, rfl, ha, hb⟩, hB1⟩
  have HA := hideT' (small_max ha)
  have HBb := hideT' (small_max hb)
  have HT1 := hideT' ((HT.out.on hB1).up hB1.size)
  clear ha hb
  go_wp2_with fail
  refine (implAdd_any a b w1 HA.out HBb.out HT1.out).mono ?_
  rintro e w2 ⟨hA2, hB2⟩
  have hA2' := hA2
  have HADD := hideT' hA2
  obtain ⟨s, o, he, _⟩ := hA2.same hA2'
  subst he
  have hB2' := hB1.trans (hB2.mono hB1.size)
  clear hA2 hA2' hB1 hB2
  go_wp2_with fail
  refine (specAdd_any a b w2 HA.out HBb.out).mono ?_
  rintro e w3 ⟨hA3, hB3⟩
  obtain ⟨s2, o2, he1, he2⟩ := HADD.out.same hA3
  obtain ⟨rfl, rfl⟩ : s = s2 ∧ o = o2 := by
    simp only [Ending.returned.injEq, Value.tuple.injEq, Array.mk.injEq, List.cons.injEq, Value.string.injEq, Value.bool.injEq, and_true] at he1
    simpa using he1
  subst he2
  have hw3' := hB2'.trans (hB3.mono hB2'.size)
  clear he1 hA3 hB2' hB3
  -- behind the sums
  have HMUL : Hid (∀ (wx : World), Below w.heap.size w wx → Tab wx.heap.size wx) := fun wx h => (HT.out.on h).up h.size
  cases o with
  | true =>
    obtain ⟨g1, g2, g3⟩ := ans_true (g := (goodB a.data.toList && goodB b.data.toList)) (n := dval a.data.toList + dval b.data.toList) HADD.out
    rw [Bool.and_eq_true] at g1
    have HG := hideT' (And.intro g1 (And.intro g2 g3))
    clear g1 g2 g3
    go_wp2_with fail
    refine (implSub_any s b w3 (good_max HG.out.2.1) HBb.out (HMUL.out _ hw3')).mono ?_
    rintro e w4 ⟨hA4, hB4⟩
    have he4 := ans_yes hA4 (by unfold subOk; rw [HG.out.2.1, HG.out.1.2, decide_eq_true (by rw [HG.out.2.2]; omega)]; rfl) HG.out.1.1 (by rw [HG.out.2.2]; omega)
    subst he4
    have hB4' := hw3'.trans (hB4.mono hw3'.size)
    clear hA4 hw3' hB4
    go_wp2_with fail
    refine (implCompare_any s a w4 (good_max HG.out.2.1) HA.out).mono ?_
    rintro e w5 ⟨rfl, hB5⟩
    obtain ⟨c, hc, hc0⟩ := cmp_ge HG.out.2.1 HG.out.1.1 (show dval a.data.toList ≤ dval s.data.toList by rw [HG.out.2.2]; omega)
    rw [hc]
    have hw5' := hB4'.trans (hB5.mono hB4'.size)
    clear hB4' hB5 hc
    go_wp2_with fail
    refine (implMul_any a b w5 HA.out HBb.out (HMUL.out _ hw5')).mono ?_
    rintro e m1 ⟨hM1, hBm1⟩
    have hM1' := hM1
    have HM := hideT' hM1
    obtain ⟨p, v, he, _⟩ := hM1.same hM1'
    subst he
    have hm1' := hw5'.trans (hBm1.mono hw5'.size)
    clear hM1 hM1' hw5' hBm1
    go_wp2_with fail
    refine (specMul_any a b m1 HA.out HBb.out).mono ?_
    rintro e m2 ⟨hM2, hBm2⟩
    obtain ⟨p2, v2, he1, he2⟩ := HM.out.same hM2
    obtain ⟨rfl, rfl⟩ : p = p2 ∧ v = v2 := by
      simp only [Ending.returned.injEq, Value.tuple.injEq, Array.mk.injEq, List.cons.injEq, Value.string.injEq, Value.bool.injEq, and_true] at he1
      simpa using he1
    subst he2
    have hm2' := hm1'.trans (hBm2.mono hm1'.size)
    clear hM2 he1 hm1' hBm2
    cases v with
    | false =>
      go_wp2_with fail
      refine (drawToRadix_any _ l1 m2 ⟨HC.out.2.1.below hm2', HC.out.2.2⟩).mono ?_
      rintro e r1 ⟨⟨c, n, rfl, hc, hn⟩, hBr1⟩
      have HCC := hideT' (small_max hc)
      have hr1' := hm2'.trans (hBr1.mono hm2'.size)
      clear hm2' hBr1 hc hn
      go_wp2_with fail
      refine (implToRadix_any c n r1 HCC.out (HMUL.out _ hr1')).mono ?_
      rintro e r2 ⟨hR2, hBr2⟩
      have hR2' := hR2
      have HRAD := hideT' hR2
      obtain ⟨t, u, he, _⟩ := hR2.same hR2'
      subst he
      have hr2' := hr1'.trans (hBr2.mono hr1'.size)
      clear hR2 hR2' hr1' hBr2
      go_wp2_with fail
      refine (specToRadix_any c n r2 HCC.out).mono ?_
      rintro e r3 ⟨hR3, hBr3⟩
      obtain ⟨t2, u2, he1, he2⟩ := HRAD.out.same hR3
      obtain ⟨rfl, rfl⟩ : t = t2 ∧ u = u2 := by
        simp only [Ending.returned.injEq, Value.tuple.injEq, Array.mk.injEq, List.cons.injEq, Value.string.injEq, Value.bool.injEq, and_true] at he1
        simpa using he1
      subst he2
      have hr3' := hr2'.trans (hBr3.mono hr2'.size)
      clear hR3 he1 hr2' hBr3
      cases u with
      | false =>
        go_wp2
        go_ret
        exact ⟨rfl, hr3'⟩
      | true =>
        by_cases hlen : (2000 : Int) < (t.size : Int)
        · go_wp2
          go_ret
          exact ⟨rfl, hr3'⟩
        · have HBACK := hideT' (radix_back HRAD.out (show t.size ≤ 2000 by omega))
          go_wp2_with fail
          refine (implOfRadix_any t n r3 (by unfold maxLen; omega) (HMUL.out _ hr3')).mono ?_
          rintro e r4 ⟨hR4, hBr4⟩
          have he4 := ans_yes hR4 HBACK.out.1 HBACK.out.2.1 HBACK.out.2.2
          subst he4
          have hr4' := hr3'.trans (hBr4.mono hr3'.size)
          clear hR4 hr3' hBr4
          go_wp2
          go_ret
          exact ⟨rfl, hr4'⟩
    | true =>
      by_cases hb0 : b = ⟨#[48]⟩
      · subst hb0
        go_wp2_with fail
        refine (drawToRadix_any _ l1 m2 ⟨HC.out.2.1.below hm2', HC.out.2.2⟩).mono ?_
        rintro e r1 ⟨⟨c, n, rfl, hc, hn⟩, hBr1⟩
        have HCC := hideT' (small_max hc)
        have hr1' := hm2'.trans (hBr1.mono hm2'.size)
        clear hm2' hBr1 hc hn
        go_wp2_with fail
        refine (implToRadix_any c n r1 HCC.out (HMUL.out _ hr1')).mono ?_
        rintro e r2 ⟨hR2, hBr2⟩
        have hR2' := hR2
        have HRAD := hideT' hR2
        obtain ⟨t, u, he, _⟩ := hR2.same hR2'
        subst he
        have hr2' := hr1'.trans (hBr2.mono hr1'.size)
        clear hR2 hR2' hr1' hBr2
        go_wp2_with fail
        refine (specToRadix_any c n r2 HCC.out).mono ?_
        rintro e r3 ⟨hR3, hBr3⟩
        obtain ⟨t2, u2, he1, he2⟩ := HRAD.out.same hR3
        obtain ⟨rfl, rfl⟩ : t = t2 ∧ u = u2 := by
          simp only [Ending.returned.injEq, Value.tuple.injEq, Array.mk.injEq, List.cons.injEq, Value.string.injEq, Value.bool.injEq, and_true] at he1
          simpa using he1
        subst he2
        have hr3' := hr2'.trans (hBr3.mono hr2'.size)
        clear hR3 he1 hr2' hBr3
        cases u with
        | false =>
          go_wp2
          go_ret
          exact ⟨rfl, hr3'⟩
        | true =>
          by_cases hlen : (2000 : Int) < (t.size : Int)
          · go_wp2
            go_ret
            exact ⟨rfl, hr3'⟩
          · have HBACK := hideT' (radix_back HRAD.out (show t.size ≤ 2000 by omega))
            go_wp2_with fail
            refine (implOfRadix_any t n r3 (by unfold maxLen; omega) (HMUL.out _ hr3')).mono ?_
            rintro e r4 ⟨hR4, hBr4⟩
            have he4 := ans_yes hR4 HBACK.out.1 HBACK.out.2.1 HBACK.out.2.2
            subst he4
            have hr4' := hr3'.trans (hBr4.mono hr3'.size)
            clear hR4 hr3' hBr4
            go_wp2
            go_ret
            exact ⟨rfl, hr4'⟩
      · obtain ⟨k1, k2, k3⟩ := ans_true HM.out
        rw [Bool.and_eq_true] at k1
        have HK := hideT' (And.intro k1 (And.intro k2 (And.intro k3 (good_ne_zero k1.2 hb0))))
        have hbb : (b.toList == [48]) = false := str_ne (fun h => hb0 (Go.WideShapes.bytes_inj h))
        clear k1 k2 k3
        go_wp2_with fail
        refine (implDiv_any p b m2 (good_max HK.out.2.1) HBb.out (HMUL.out _ hm2')).mono ?_
        rintro e d1 ⟨hD1, hBd1⟩
        have hq1 : dval p.data.toList / dval b.data.toList = dval a.data.toList := by rw [HK.out.2.2.1]; exact Nat.mul_div_cancel _ (Nat.pos_of_ne_zero HK.out.2.2.2)
        have hq2 : dval p.data.toList % dval b.data.toList = 0 := by rw [HK.out.2.2.1]; exact Nat.mul_mod_left _ _
        rw [hq1, hq2] at hD1
        obtain ⟨q, r, rfl, ⟨gq, vq⟩, gr, vr⟩ := ans2_yes hD1 (by unfold divOk; rw [HK.out.2.1, HK.out.1.2, decide_eq_true HK.out.2.2.2]; rfl) (good_lt HK.out.1.1) (by have := good_lt good_zero.1; rw [good_zero.2] at this; exact this)
        obtain rfl : q = a := good_inj gq HK.out.1.1 vq
        obtain rfl : r = ⟨#[48]⟩ := good_inj gr good_zero.1 (by rw [vr, good_zero.2])
        have hd1' := hm2'.trans (hBd1.mono hm2'.size)
        clear hD1 hq1 hq2 gq vq gr vr hm2' hBd1
        go_wp2_with fail
        refine (implGcd_any p b d1 (good_max HK.out.2.1) HBb.out (HMUL.out _ hd1')).mono ?_
        rintro e d2 ⟨hD2, hBd2⟩
        have he2 := ans_yes hD2 (by rw [HK.out.2.1, HK.out.1.2]; rfl) HK.out.1.2 (by rw [HK.out.2.2.1, Nat.gcd_mul_left_left])
        subst he2
        have hd2' := hd1'.trans (hBd2.mono hd1'.size)
        clear hD2 hd1' hBd2
        go_wp2_with fail
        refine (implDiv_any q b d2 HA.out HBb.out (HMUL.out _ hd2')).mono ?_
        rintro e d3 ⟨hD3, hBd3⟩
        obtain ⟨x, y, rfl, hX, hY⟩ := ans2_yes hD3 (by unfold divOk; rw [HK.out.1.1, HK.out.1.2, decide_eq_true HK.out.2.2.2]; rfl) (Nat.lt_of_le_of_lt (Nat.div_le_self _ _) (good_lt HK.out.1.1)) (Nat.lt_of_le_of_lt (Nat.mod_le _ _) (good_lt HK.out.1.1))
        have HXY := hideT' (And.intro hX hY)
        have hd3' := hd2'.trans (hBd3.mono hd2'.size)
        clear hD3 hX hY hd2' hBd3
        go_wp2_with fail
        refine (implMul_any x b d3 (good_max HXY.out.1.1) HBb.out (HMUL.out _ hd3')).mono ?_
        rintro e d4 ⟨hD4, hBd4⟩
        obtain ⟨z, rfl, hZ⟩ := ans_some hD4 (by rw [HXY.out.1.1, HK.out.1.2]; rfl) (by rw [HXY.out.1.2]; exact Nat.lt_of_le_of_lt (Nat.div_mul_le_self _ _) (good_lt HK.out.1.1))
        have HZ := hideT' hZ
        have hd4' := hd3'.trans (hBd4.mono hd3'.size)
        clear hD4 hZ hd3' hBd4
        go_wp2_with fail
        refine (implAdd_any z y d4 (good_max HZ.out.1) (good_max HXY.out.2.1) (HMUL.out _ hd4')).mono ?_
        rintro e d5 ⟨hD5, hBd5⟩
        have he5 := ans_yes (g := (goodB z.data.toList && goodB y.data.toList)) (n := dval z.data.toList + dval y.data.toList) hD5 (by rw [HZ.out.1, HXY.out.2.1]; rfl) HK.out.1.1 (by rw [HZ.out.2, HXY.out.1.2, HXY.out.2.2, Nat.mul_comm]; exact (Nat.div_add_mod _ _).symm)
        subst he5
        have hd5' := hd4'.trans (hBd5.mono hd4'.size)
        clear hD5 hd4' hBd5
        go_wp2_with fail
        refine (implCompare_any y b d5 (good_max HXY.out.2.1) HBb.out).mono ?_
        rintro e d6 ⟨rfl, hBd6⟩
        rw [cmp_less HXY.out.2.1 HK.out.1.2 (by rw [HXY.out.2.2]; exact Nat.mod_lt _ (Nat.pos_of_ne_zero HK.out.2.2.2))]
        have hd6' := hd5'.trans (hBd6.mono hd5'.size)
        clear hd5' hBd6
        go_wp2_with fail
        refine (drawToRadix_any _ l1 d6 ⟨HC.out.2.1.below hd6', HC.out.2.2⟩).mono ?_
        rintro e r1 ⟨⟨c, n, rfl, hc, hn⟩, hBr1⟩
        have HCC := hideT' (small_max hc)
        have hr1' := hd6'.trans (hBr1.mono hd6'.size)
        clear hd6' hBr1 hc hn
        go_wp2_with fail
        refine (implToRadix_any c n r1 HCC.out (HMUL.out _ hr1')).mono ?_
        rintro e r2 ⟨hR2, hBr2⟩
        have hR2' := hR2
        have HRAD := hideT' hR2
        obtain ⟨t, u, he, _⟩ := hR2.same hR2'
        subst he
        have hr2' := hr1'.trans (hBr2.mono hr1'.size)
        clear hR2 hR2' hr1' hBr2
        go_wp2_with fail
        refine (specToRadix_any c n r2 HCC.out).mono ?_
        rintro e r3 ⟨hR3, hBr3⟩
        obtain ⟨t2, u2, he1, he2⟩ := HRAD.out.same hR3
        obtain ⟨rfl, rfl⟩ : t = t2 ∧ u = u2 := by
          simp only [Ending.returned.injEq, Value.tuple.injEq, Array.mk.injEq, List.cons.injEq, Value.string.injEq, Value.bool.injEq, and_true] at he1
          simpa using he1
        subst he2
        have hr3' := hr2'.trans (hBr3.mono hr2'.size)
        clear hR3 he1 hr2' hBr3
        cases u with
        | false =>
          go_wp2
          go_ret
          exact ⟨rfl, hr3'⟩
        | true =>
          by_cases hlen : (2000 : Int) < (t.size : Int)
          · go_wp2
            go_ret
            exact ⟨rfl, hr3'⟩
          · have HBACK := hideT' (radix_back HRAD.out (show t.size ≤ 2000 by omega))
            go_wp2_with fail
            refine (implOfRadix_any t n r3 (by unfold maxLen; omega) (HMUL.out _ hr3')).mono ?_
            rintro e r4 ⟨hR4, hBr4⟩
            have he4 := ans_yes hR4 HBACK.out.1 HBACK.out.2.1 HBACK.out.2.2
            subst he4
            have hr4' := hr3'.trans (hBr4.mono hr3'.size)
            clear hR4 hr3' hBr4
            go_wp2
            go_ret
            exact ⟨rfl, hr4'⟩
  | false =>
    go_wp2_with fail
    refine (implMul_any a b w3 HA.out HBb.out (HMUL.out _ hw3')).mono ?_
    rintro e m1 ⟨hM1, hBm1⟩
    have hM1' := hM1
    have HM := hideT' hM1
    obtain ⟨p, v, he, _⟩ := hM1.same hM1'
    subst he
    have hm1' := hw3'.trans (hBm1.mono hw3'.size)
    clear hM1 hM1' hw3' hBm1
    go_wp2_with fail
    refine (specMul_any a b m1 HA.out HBb.out).mono ?_
    rintro e m2 ⟨hM2, hBm2⟩
    obtain ⟨p2, v2, he1, he2⟩ := HM.out.same hM2
    obtain ⟨rfl, rfl⟩ : p = p2 ∧ v = v2 := by
      simp only [Ending.returned.injEq, Value.tuple.injEq, Array.mk.injEq, List.cons.injEq, Value.string.injEq, Value.bool.injEq, and_true] at he1
      simpa using he1
    subst he2
    have hm2' := hm1'.trans (hBm2.mono hm1'.size)
    clear hM2 he1 hm1' hBm2
    cases v with
    | false =>
      go_wp2_with fail
      refine (drawToRadix_any _ l1 m2 ⟨HC.out.2.1.below hm2', HC.out.2.2⟩).mono ?_
      rintro e r1 ⟨⟨c, n, rfl, hc, hn⟩, hBr1⟩
      have HCC := hideT' (small_max hc)
      have hr1' := hm2'.trans (hBr1.mono hm2'.size)
      clear hm2' hBr1 hc hn
      go_wp2_with fail
      refine (implToRadix_any c n r1 HCC.out (HMUL.out _ hr1')).mono ?_
      rintro e r2 ⟨hR2, hBr2⟩
      have hR2' := hR2
      have HRAD := hideT' hR2
      obtain ⟨t, u, he, _⟩ := hR2.same hR2'
      subst he
      have hr2' := hr1'.trans (hBr2.mono hr1'.size)
      clear hR2 hR2' hr1' hBr2
      go_wp2_with fail
      refine (specToRadix_any c n r2 HCC.out).mono ?_
      rintro e r3 ⟨hR3, hBr3⟩
      obtain ⟨t2, u2, he1, he2⟩ := HRAD.out.same hR3
      obtain ⟨rfl, rfl⟩ : t = t2 ∧ u = u2 := by
        simp only [Ending.returned.injEq, Value.tuple.injEq, Array.mk.injEq, List.cons.injEq, Value.string.injEq, Value.bool.injEq, and_true] at he1
        simpa using he1
      subst he2
      have hr3' := hr2'.trans (hBr3.mono hr2'.size)
      clear hR3 he1 hr2' hBr3
      cases u with
      | false =>
        go_wp2
        go_ret
        exact ⟨rfl, hr3'⟩
      | true =>
        by_cases hlen : (2000 : Int) < (t.size : Int)
        · go_wp2
          go_ret
          exact ⟨rfl, hr3'⟩
        · have HBACK := hideT' (radix_back HRAD.out (show t.size ≤ 2000 by omega))
          go_wp2_with fail
          refine (implOfRadix_any t n r3 (by unfold maxLen; omega) (HMUL.out _ hr3')).mono ?_
          rintro e r4 ⟨hR4, hBr4⟩
          have he4 := ans_yes hR4 HBACK.out.1 HBACK.out.2.1 HBACK.out.2.2
          subst he4
          have hr4' := hr3'.trans (hBr4.mono hr3'.size)
          clear hR4 hr3' hBr4
          go_wp2
          go_ret
          exact ⟨rfl, hr4'⟩
    | true =>
      by_cases hb0 : b = ⟨#[48]⟩
      · subst hb0
        go_wp2_with fail
        refine (drawToRadix_any _ l1 m2 ⟨HC.out.2.1.below hm2', HC.out.2.2⟩).mono ?_
        rintro e r1 ⟨⟨c, n, rfl, hc, hn⟩, hBr1⟩
        have HCC := hideT' (small_max hc)
        have hr1' := hm2'.trans (hBr1.mono hm2'.size)
        clear hm2' hBr1 hc hn
        go_wp2_with fail
        refine (implToRadix_any c n r1 HCC.out (HMUL.out _ hr1')).mono ?_
        rintro e r2 ⟨hR2, hBr2⟩
        have hR2' := hR2
        have HRAD := hideT' hR2
        obtain ⟨t, u, he, _⟩ := hR2.same hR2'
        subst he
        have hr2' := hr1'.trans (hBr2.mono hr1'.size)
        clear hR2 hR2' hr1' hBr2
        go_wp2_with fail
        refine (specToRadix_any c n r2 HCC.out).mono ?_
        rintro e r3 ⟨hR3, hBr3⟩
        obtain ⟨t2, u2, he1, he2⟩ := HRAD.out.same hR3
        obtain ⟨rfl, rfl⟩ : t = t2 ∧ u = u2 := by
          simp only [Ending.returned.injEq, Value.tuple.injEq, Array.mk.injEq, List.cons.injEq, Value.string.injEq, Value.bool.injEq, and_true] at he1
          simpa using he1
        subst he2
        have hr3' := hr2'.trans (hBr3.mono hr2'.size)
        clear hR3 he1 hr2' hBr3
        cases u with
        | false =>
          go_wp2
          go_ret
          exact ⟨rfl, hr3'⟩
        | true =>
          by_cases hlen : (2000 : Int) < (t.size : Int)
          · go_wp2
            go_ret
            exact ⟨rfl, hr3'⟩
          · have HBACK := hideT' (radix_back HRAD.out (show t.size ≤ 2000 by omega))
            go_wp2_with fail
            refine (implOfRadix_any t n r3 (by unfold maxLen; omega) (HMUL.out _ hr3')).mono ?_
            rintro e r4 ⟨hR4, hBr4⟩
            have he4 := ans_yes hR4 HBACK.out.1 HBACK.out.2.1 HBACK.out.2.2
            subst he4
            have hr4' := hr3'.trans (hBr4.mono hr3'.size)
            clear hR4 hr3' hBr4
            go_wp2
            go_ret
            exact ⟨rfl, hr4'⟩
      · obtain ⟨k1, k2, k3⟩ := ans_true HM.out
        rw [Bool.and_eq_true] at k1
        have HK := hideT' (And.intro k1 (And.intro k2 (And.intro k3 (good_ne_zero k1.2 hb0))))
        have hbb : (b.toList == [48]) = false := str_ne (fun h => hb0 (Go.WideShapes.bytes_inj h))
        clear k1 k2 k3
        go_wp2_with fail
        refine (implDiv_any p b m2 (good_max HK.out.2.1) HBb.out (HMUL.out _ hm2')).mono ?_
        rintro e d1 ⟨hD1, hBd1⟩
        have hq1 : dval p.data.toList / dval b.data.toList = dval a.data.toList := by rw [HK.out.2.2.1]; exact Nat.mul_div_cancel _ (Nat.pos_of_ne_zero HK.out.2.2.2)
        have hq2 : dval p.data.toList % dval b.data.toList = 0 := by rw [HK.out.2.2.1]; exact Nat.mul_mod_left _ _
        rw [hq1, hq2] at hD1
        obtain ⟨q, r, rfl, ⟨gq, vq⟩, gr, vr⟩ := ans2_yes hD1 (by unfold divOk; rw [HK.out.2.1, HK.out.1.2, decide_eq_true HK.out.2.2.2]; rfl) (good_lt HK.out.1.1) (by have := good_lt good_zero.1; rw [good_zero.2] at this; exact this)
        obtain rfl : q = a := good_inj gq HK.out.1.1 vq
        obtain rfl : r = ⟨#[48]⟩ := good_inj gr good_zero.1 (by rw [vr, good_zero.2])
        have hd1' := hm2'.trans (hBd1.mono hm2'.size)
        clear hD1 hq1 hq2 gq vq gr vr hm2' hBd1
        go_wp2_with fail
        refine (implGcd_any p b d1 (good_max HK.out.2.1) HBb.out (HMUL.out _ hd1')).mono ?_
        rintro e d2 ⟨hD2, hBd2⟩
        have he2 := ans_yes hD2 (by rw [HK.out.2.1, HK.out.1.2]; rfl) HK.out.1.2 (by rw [HK.out.2.2.1, Nat.gcd_mul_left_left])
        subst he2
        have hd2' := hd1'.trans (hBd2.mono hd1'.size)
        clear hD2 hd1' hBd2
        go_wp2_with fail
        refine (implDiv_any q b d2 HA.out HBb.out (HMUL.out _ hd2')).mono ?_
        rintro e d3 ⟨hD3, hBd3⟩
        obtain ⟨x, y, rfl, hX, hY⟩ := ans2_yes hD3 (by unfold divOk; rw [HK.out.1.1, HK.out.1.2, decide_eq_true HK.out.2.2.2]; rfl) (Nat.lt_of_le_of_lt (Nat.div_le_self _ _) (good_lt HK.out.1.1)) (Nat.lt_of_le_of_lt (Nat.mod_le _ _) (good_lt HK.out.1.1))
        have HXY := hideT' (And.intro hX hY)
        have hd3' := hd2'.trans (hBd3.mono hd2'.size)
        clear hD3 hX hY hd2' hBd3
        go_wp2_with fail
        refine (implMul_any x b d3 (good_max HXY.out.1.1) HBb.out (HMUL.out _ hd3')).mono ?_
        rintro e d4 ⟨hD4, hBd4⟩
        obtain ⟨z, rfl, hZ⟩ := ans_some hD4 (by rw [HXY.out.1.1, HK.out.1.2]; rfl) (by rw [HXY.out.1.2]; exact Nat.lt_of_le_of_lt (Nat.div_mul_le_self _ _) (good_lt HK.out.1.1))
        have HZ := hideT' hZ
        have hd4' := hd3'.trans (hBd4.mono hd3'.size)
        clear hD4 hZ hd3' hBd4
        go_wp2_with fail
        refine (implAdd_any z y d4 (good_max HZ.out.1) (good_max HXY.out.2.1) (HMUL.out _ hd4')).mono ?_
        rintro e d5 ⟨hD5, hBd5⟩
        have he5 := ans_yes (g := (goodB z.data.toList && goodB y.data.toList)) (n := dval z.data.toList + dval y.data.toList) hD5 (by rw [HZ.out.1, HXY.out.2.1]; rfl) HK.out.1.1 (by rw [HZ.out.2, HXY.out.1.2, HXY.out.2.2, Nat.mul_comm]; exact (Nat.div_add_mod _ _).symm)
        subst he5
        have hd5' := hd4'.trans (hBd5.mono hd4'.size)
        clear hD5 hd4' hBd5
        go_wp2_with fail
        refine (implCompare_any y b d5 (good_max HXY.out.2.1) HBb.out).mono ?_
        rintro e d6 ⟨rfl, hBd6⟩
        rw [cmp_less HXY.out.2.1 HK.out.1.2 (by rw [HXY.out.2.2]; exact Nat.mod_lt _ (Nat.pos_of_ne_zero HK.out.2.2.2))]
        have hd6' := hd5'.trans (hBd6.mono hd5'.size)
        clear hd5' hBd6
        go_wp2_with fail
        refine (drawToRadix_any _ l1 d6 ⟨HC.out.2.1.below hd6', HC.out.2.2⟩).mono ?_
        rintro e r1 ⟨⟨c, n, rfl, hc, hn⟩, hBr1⟩
        have HCC := hideT' (small_max hc)
        have hr1' := hd6'.trans (hBr1.mono hd6'.size)
        clear hd6' hBr1 hc hn
        go_wp2_with fail
        refine (implToRadix_any c n r1 HCC.out (HMUL.out _ hr1')).mono ?_
        rintro e r2 ⟨hR2, hBr2⟩
        have hR2' := hR2
        have HRAD := hideT' hR2
        obtain ⟨t, u, he, _⟩ := hR2.same hR2'
        subst he
        have hr2' := hr1'.trans (hBr2.mono hr1'.size)
        clear hR2 hR2' hr1' hBr2
        go_wp2_with fail
        refine (specToRadix_any c n r2 HCC.out).mono ?_
        rintro e r3 ⟨hR3, hBr3⟩
        obtain ⟨t2, u2, he1, he2⟩ := HRAD.out.same hR3
        obtain ⟨rfl, rfl⟩ : t = t2 ∧ u = u2 := by
          simp only [Ending.returned.injEq, Value.tuple.injEq, Array.mk.injEq, List.cons.injEq, Value.string.injEq, Value.bool.injEq, and_true] at he1
          simpa using he1
        subst he2
        have hr3' := hr2'.trans (hBr3.mono hr2'.size)
        clear hR3 he1 hr2' hBr3
        cases u with
        | false =>
          go_wp2
          go_ret
          exact ⟨rfl, hr3'⟩
        | true =>
          by_cases hlen : (2000 : Int) < (t.size : Int)
          · go_wp2
            go_ret
            exact ⟨rfl, hr3'⟩
          · have HBACK := hideT' (radix_back HRAD.out (show t.size ≤ 2000 by omega))
            go_wp2_with fail
            refine (implOfRadix_any t n r3 (by unfold maxLen; omega) (HMUL.out _ hr3')).mono ?_
            rintro e r4 ⟨hR4, hBr4⟩
            have he4 := ans_yes hR4 HBACK.out.1 HBACK.out.2.1 HBACK.out.2.2
            subst he4
            have hr4' := hr3'.trans (hBr4.mono hr3'.size)
            clear hR4 hr3' hBr4
            go_wp2
            go_ret
            exact ⟨rfl, hr4'⟩
end Go.Proofs.YtnlegofckpbncaaDoor
