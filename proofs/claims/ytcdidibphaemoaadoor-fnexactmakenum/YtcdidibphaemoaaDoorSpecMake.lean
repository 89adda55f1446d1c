/-
  What spec.l2Make and spec.MakeNum answer.
-/
import Derived.Test.YtcdidibphaemoaaDoorSpecGcd
import Derived.Test.YtcdidibphaemoaaDoorImplMake
namespace Go.Proofs.YtcdidibphaemoaaDoor
open Go.RowKit
set_option linter.unusedVariables false

theorem one_lt (k : Nat) (hk : k ≠ 0) : 1 < 10 ^ k := Nat.one_lt_pow hk (by decide)

theorem make_tells {g : Bool} {a b t u s : ByteArray} {G : Nat} (h0 : dval a.data.toList ≠ 0) (hC : canonB t.data.toList = true ∧ dval t.data.toList = dval a.data.toList / G ∧ canonB u.data.toList = true ∧ dval u.data.toList = dval b.data.toList / G) (h1 : t.size ≤ 600) (h2 : u.size ≤ 600)
    (h : s.data.toList = (if g then [45] else []) ++ t.data.toList ++ (if dval b.data.toList / G = 1 then [] else 47 :: u.data.toList)) : TellsN (g && decide (dval a.data.toList ≠ 0)) (dval a.data.toList / G) (dval b.data.toList / G) (.returned (.tuple #[.string s, .bool true])) := by
  rw [decide_eq_true h0, Bool.and_true]
  refine TellsN.yes ?_ ?_ ⟨t, u, InRad.dec hC.1 hC.2.1, InRad.dec hC.2.2.1 hC.2.2.2, h⟩
  · rw [← hC.2.1]; exact (canon_len_le hC.1 600 (by omega)).1 (by simpa using h1)
  · rw [← hC.2.2.2]; exact (canon_len_le hC.2.2.1 600 (by omega)).1 (by simpa using h2)

set_option maxHeartbeats 1000000 in
set_option maxRecDepth 100000 in
theorem l2Make_any (g : Bool) (a b : ByteArray) (w : World) (hsa : a.size ≤ 2000) (hsb : b.size ≤ 2000) (ha : canonB a.data.toList = true) (hb : canonB b.data.toList = true) (hb0 : dval b.data.toList ≠ 0) :
    Calls Tryd.prog 38 #[.bool g, .string a, .string b] w fun e w' => TellsN (g && decide (dval a.data.toList ≠ 0)) (dval a.data.toList / Nat.gcd (dval a.data.toList) (dval b.data.toList)) (dval b.data.toList / Nat.gcd (dval a.data.toList) (dval b.data.toList)) e ∧ Below w.heap.size w w' := by
  have HA := hideT ha
  have HB := hideT hb
  have HB0 := hideT hb0
  by_cases hz : a = ⟨#[48]⟩
  · have h0 : dval a.data.toList = 0 := by rw [hz]; decide
    have HN : Hid (TellsN (g && decide (dval a.data.toList ≠ 0)) (dval a.data.toList / Nat.gcd (dval a.data.toList) (dval b.data.toList)) (dval b.data.toList / Nat.gcd (dval a.data.toList) (dval b.data.toList)) (.returned (.tuple #[.string ⟨#[48]⟩, .bool true]))) := by
      unfold Hid
      rw [h0, Nat.gcd_zero_left, Nat.zero_div, Nat.div_self (Nat.pos_of_ne_zero hb0), decide_eq_false (by simp), Bool.and_false]
      refine TellsN.yes (Nat.lt_trans (by decide) (one_lt 600 (by decide))) (one_lt 600 (by decide)) ⟨⟨#[48]⟩, ⟨#[49]⟩, InRad.dec (by decide) (by decide), InRad.dec (by decide) (by decide), by simp⟩
    subst hz
    clear ha hb hb0 h0
    go_enter Tryd.func38, Tryd.ntmps38
    go_wp2
    go_ret2
    exact ⟨HN.out, Below.refl _ _⟩
  · have hz' : (a.toList == [48]) = false := str_ne (fun h => hz (WideShapes.bytes_inj h))
    have HT0 : Hid (dval a.data.toList ≠ 0) := fun e => hz (WideShapes.bytes_inj ((canon_zero HA.out).1 e))
    obtain ⟨G, hG⟩ : ∃ G, G = Nat.gcd (dval a.data.toList) (dval b.data.toList) := ⟨_, rfl⟩
    rw [← hG]
    have HG := hideT hG
    have HG0 : Hid (G ≠ 0) := by
      have := Nat.gcd_pos_of_pos_right (dval a.data.toList) (Nat.pos_of_ne_zero hb0)
      unfold Hid; omega
    clear hz ha hb hb0 hG
    go_enter Tryd.func38, Tryd.ntmps38
    go_wp2_with fail
    refine (l1Gcd_any a b w hsa hsb HA.out HB.out).mono ?_
    rintro e w1 ⟨c, rfl, hc, hv, hW⟩
    rw [← HG.out] at hv
    have HCC := hideT (And.intro hc hv)
    have hcs : c.size ≤ 2000 := by
      have hle : dval c.data.toList ≤ dval b.data.toList := by rw [hv, HG.out]; exact Nat.gcd_le_right _ (Nat.pos_of_ne_zero HB0.out)
      have := canon_le_size HB.out hc hle; omega
    clear hc hv
    by_cases hc1 : c.data.toList = [49]
    · have hc1' : (c.toList == [49]) = true := str_eq hc1
      have hG1 : G = 1 := by rw [← HCC.out.2]; exact (canon_one HCC.out.1).2 hc1
      clear hc1
      have HC : Hid (canonB a.data.toList = true ∧ dval a.data.toList = dval a.data.toList / G ∧ canonB b.data.toList = true ∧ dval b.data.toList = dval b.data.toList / G) := by
        unfold Hid; rw [hG1, Nat.div_one, Nat.div_one]; exact ⟨HA.out, rfl, HB.out, rfl⟩
      clear hG1
      by_cases hl1 : (600 : Int) < (a.size : Int)
      · have HN : Hid (TellsN (g && decide (dval a.data.toList ≠ 0)) (dval a.data.toList / G) (dval b.data.toList / G) (.returned (.tuple #[.string ⟨#[]⟩, .bool false]))) := TellsN.no (.inl (fun h => by
          rw [← HC.out.2.1] at h
          have := (canon_len_le HC.out.1 600 (by omega)).2 h
          simp at this; omega))
        go_wp2
        go_ret2
        exact ⟨HN.out, hW⟩
      · by_cases hl2 : (600 : Int) < (b.size : Int)
        · have HN : Hid (TellsN (g && decide (dval a.data.toList ≠ 0)) (dval a.data.toList / G) (dval b.data.toList / G) (.returned (.tuple #[.string ⟨#[]⟩, .bool false]))) := TellsN.no (.inr (fun h => by
            rw [← HC.out.2.2.2] at h
            have := (canon_len_le HC.out.2.2.1 600 (by omega)).2 h
            simp at this; omega))
          go_wp2
          go_ret2
          exact ⟨HN.out, hW⟩
        · have HY := fun (s : ByteArray) (h : s.data.toList = (if g then [45] else []) ++ a.data.toList ++ (if dval b.data.toList / G = 1 then [] else 47 :: b.data.toList)) => make_tells (s := s) (g := g) HT0.out HC.out (by omega) (by omega) h
          have HY' := hideT HY
          clear HY
          have hb1 : Hid (dval b.data.toList / G = 1 ↔ b.data.toList = [49]) := by unfold Hid; rw [← HC.out.2.2.2]; exact canon_one HC.out.2.2.1
          by_cases hu1 : b.data.toList = [49]
          · have hu1' : (b.toList == [49]) = true := str_eq hu1
            have HI : Hid (dval b.data.toList / G = 1) := hb1.out.2 hu1
            clear hu1
            cases g with
            | true =>
              go_wp2
              go_ret2
              exact ⟨HY'.out _ (by rw [if_pos HI.out]; simp [ByteArray.data_append]), hW⟩
            | false =>
              go_wp2
              go_ret2
              exact ⟨HY'.out _ (by rw [if_pos HI.out]; simp), hW⟩
          · have hu1' : (b.toList == [49]) = false := str_ne hu1
            have HI : Hid (¬ dval b.data.toList / G = 1) := fun e => hu1 (hb1.out.1 e)
            clear hu1
            cases g with
            | true =>
              go_wp2
              go_ret2
              exact ⟨HY'.out _ (by rw [if_neg HI.out]; simp [ByteArray.data_append]), hW⟩
            | false =>
              go_wp2
              go_ret2
              exact ⟨HY'.out _ (by rw [if_neg HI.out]; simp [ByteArray.data_append]), hW⟩
    · have hc1' : (c.toList == [49]) = false := str_ne hc1
      have hcz : Hid (dval c.data.toList ≠ 0) := by unfold Hid; rw [HCC.out.2]; exact HG0.out
      clear hc1
      go_wp2_with fail
      refine (l1Div_any a c w1 hsa hcs HA.out HCC.out.1 hcz.out).mono ?_
      rintro e w2 ⟨t, t', rfl, hc2, hv2, _, _, hW2⟩
      rw [HCC.out.2] at hv2
      have HC2 := hideT (And.intro hc2 hv2)
      have hts : t.size ≤ 2000 := by have := canon_le_size HA.out hc2 (by rw [hv2]; exact Nat.div_le_self _ _); omega
      have hW2' : Below w.heap.size w w2 := hW.trans (hW2.mono hW.size)
      clear hc2 hv2 hW hW2
      go_wp2_with fail
      refine (l1Div_any b c w2 hsb hcs HB.out HCC.out.1 hcz.out).mono ?_
      rintro e w3 ⟨u, u', rfl, hc3, hv3, _, _, hW3⟩
      rw [HCC.out.2] at hv3
      have hus : u.size ≤ 2000 := by have := canon_le_size HB.out hc3 (by rw [hv3]; exact Nat.div_le_self _ _); omega
      have HC : Hid (canonB t.data.toList = true ∧ dval t.data.toList = dval a.data.toList / G ∧ canonB u.data.toList = true ∧ dval u.data.toList = dval b.data.toList / G) := ⟨HC2.out.1, HC2.out.2, hc3, hv3⟩
      have hW : Below w.heap.size w w3 := hW2'.trans (hW3.mono hW2'.size)
      clear hc3 hv3 hW2' hW3
      by_cases hl1 : (600 : Int) < (t.size : Int)
      · have HN : Hid (TellsN (g && decide (dval a.data.toList ≠ 0)) (dval a.data.toList / G) (dval b.data.toList / G) (.returned (.tuple #[.string ⟨#[]⟩, .bool false]))) := TellsN.no (.inl (fun h => by
          rw [← HC.out.2.1] at h
          have := (canon_len_le HC.out.1 600 (by omega)).2 h
          simp at this; omega))
        go_wp2
        go_ret2
        exact ⟨HN.out, hW⟩
      · by_cases hl2 : (600 : Int) < (u.size : Int)
        · have HN : Hid (TellsN (g && decide (dval a.data.toList ≠ 0)) (dval a.data.toList / G) (dval b.data.toList / G) (.returned (.tuple #[.string ⟨#[]⟩, .bool false]))) := TellsN.no (.inr (fun h => by
            rw [← HC.out.2.2.2] at h
            have := (canon_len_le HC.out.2.2.1 600 (by omega)).2 h
            simp at this; omega))
          go_wp2
          go_ret2
          exact ⟨HN.out, hW⟩
        · have HY := fun (s : ByteArray) (h : s.data.toList = (if g then [45] else []) ++ t.data.toList ++ (if dval b.data.toList / G = 1 then [] else 47 :: u.data.toList)) => make_tells (s := s) (g := g) HT0.out HC.out (by omega) (by omega) h
          have HY' := hideT HY
          clear HY
          have hb1 : Hid (dval b.data.toList / G = 1 ↔ u.data.toList = [49]) := by unfold Hid; rw [← HC.out.2.2.2]; exact canon_one HC.out.2.2.1
          by_cases hu1 : u.data.toList = [49]
          · have hu1' : (u.toList == [49]) = true := str_eq hu1
            have HI : Hid (dval b.data.toList / G = 1) := hb1.out.2 hu1
            clear hu1
            cases g with
            | true =>
              go_wp2
              go_ret2
              exact ⟨HY'.out _ (by rw [if_pos HI.out]; simp [ByteArray.data_append]), hW⟩
            | false =>
              go_wp2
              go_ret2
              exact ⟨HY'.out _ (by rw [if_pos HI.out]; simp), hW⟩
          · have hu1' : (u.toList == [49]) = false := str_ne hu1
            have HI : Hid (¬ dval b.data.toList / G = 1) := fun e => hu1 (hb1.out.1 e)
            clear hu1
            cases g with
            | true =>
              go_wp2
              go_ret2
              exact ⟨HY'.out _ (by rw [if_neg HI.out]; simp [ByteArray.data_append]), hW⟩
            | false =>
              go_wp2
              go_ret2
              exact ⟨HY'.out _ (by rw [if_neg HI.out]; simp [ByteArray.data_append]), hW⟩

set_option maxHeartbeats 400000 in
set_option maxRecDepth 100000 in
theorem specMake_any (g : Bool) (a b : ByteArray) (w : World) (hsa : a.size ≤ maxLen) (hsb : b.size ≤ maxLen) :
    Calls Tryd.prog 15 #[.bool g, .string a, .string b] w fun e w' => MakeAns g a b e ∧ Below w.heap.size w w' := by
  cases hg : (goodB a.data.toList && goodB b.data.toList) with
  | true =>
    have HG := hideT hg
    have hga : goodB a.data.toList = true := by have := HG.out; simp only [Bool.and_eq_true] at this; exact this.1
    have hgb : goodB b.data.toList = true := by have := HG.out; simp only [Bool.and_eq_true] at this; exact this.2
    have hla : a.size ≤ 600 := by have := good_len hga; simpa using this
    have hlb : b.size ≤ 600 := by have := good_len hgb; simpa using this
    have HA := hideT (good_canon hga)
    have HB := hideT (good_canon hgb)
    clear hg hga hgb
    by_cases hz : b = ⟨#[48]⟩
    · have HN : Hid (MakeAns g a b (.returned (.tuple #[.string ⟨#[]⟩, .bool false]))) := by
        refine .inr ⟨?_, rfl⟩
        unfold makeOk
        have : dval b.data.toList = 0 := by rw [hz]; decide
        rw [this]; simp
      subst hz
      go_enter Tryd.func15, Tryd.ntmps15
      go_wp2_with fail
      refine (l1Both_any a _ _ hsa hsb).mono ?_
      rintro e w' ⟨rfl, rfl⟩
      rw [HG.out]
      go_wp2
      go_ret2
      exact ⟨HN.out, Below.refl _ _⟩
    · have hz' : (b.toList == [48]) = false := str_ne (fun h => hz (WideShapes.bytes_inj h))
      have hb0 : dval b.data.toList ≠ 0 := fun e => hz (WideShapes.bytes_inj ((canon_zero HB.out).1 e))
      have HN : Hid (makeOk a b = true) := by
        unfold Hid makeOk
        rw [HG.out]; simp [hb0]
      have HB0 := hideT hb0
      clear hz hb0
      go_enter Tryd.func15, Tryd.ntmps15
      go_wp2_with fail
      refine (l1Both_any a _ _ hsa hsb).mono ?_
      rintro e w' ⟨rfl, rfl⟩
      rw [HG.out]
      go_wp2_with fail
      refine (l2Make_any g a b _ (by omega) (by omega) HA.out HB.out HB0.out).mono ?_
      rintro e w2 ⟨hTN, hW2⟩
      have hTN' := hTN
      obtain ⟨t, rfl, hx1, hx2⟩ := hTN
      clear hx1 hx2
      obtain ⟨bb, hbb⟩ : ∃ bb, bb = (decide (dval a.data.toList / Nat.gcd (dval a.data.toList) (dval b.data.toList) < 10 ^ 600) && decide (dval b.data.toList / Nat.gcd (dval a.data.toList) (dval b.data.toList) < 10 ^ 600)) := ⟨_, rfl⟩
      rw [← hbb] at hTN' ⊢
      have HA' : Hid (MakeAns g a b (.returned (.tuple #[.string t, .bool bb]))) := .inl ⟨HN.out, hTN'⟩
      clear hTN' hbb
      go_wp2
      go_ret2
      exact ⟨HA'.out, hW2⟩
  | false =>
    have HG := hideT hg
    have HN : Hid (MakeAns g a b (.returned (.tuple #[.string ⟨#[]⟩, .bool false]))) := .inr ⟨by unfold makeOk; rw [hg]; rfl, rfl⟩
    clear hg
    go_enter Tryd.func15, Tryd.ntmps15
    go_wp2_with fail
    refine (l1Both_any a _ _ hsa hsb).mono ?_
    rintro e w' ⟨rfl, rfl⟩
    rw [HG.out]
    go_wp2
    go_ret2
    exact ⟨HN.out, Below.refl _ _⟩
end Go.Proofs.YtcdidibphaemoaaDoor
