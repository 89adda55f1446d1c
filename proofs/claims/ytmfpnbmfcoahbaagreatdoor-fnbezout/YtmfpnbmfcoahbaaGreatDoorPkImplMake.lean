/-
  The texts ImplMake, SpecMake, ImplDiv, ImplGcdNat, ImplSub, ImplToRadix, SpecDivNat, one behind the other.
-/
import Derived.Test.YtmfpnbmfcoahbaaGreatDoorPkImplDigits
import Derived.Test.YtmfpnbmfcoahbaaGreatDoorPkHeld
import Derived.Test.YtmfpnbmfcoahbaaGreatDoorImplAdd
import Derived.Test.YtmfpnbmfcoahbaaGreatDoorPkSpecAdd
import Derived.Test.YtmfpnbmfcoahbaaGreatDoorPkSpecSub
import Derived.Test.YtmfpnbmfcoahbaaGreatDoorPkDivideA
import Derived.Test.YtmfpnbmfcoahbaaGreatDoorText
import Derived.OwnWalk

/-
  What impl.MakeNum answers.
-/
namespace Go.Proofs.YtmfpnbmfcoahbaaGreatDoor
open Go.RowKit
set_option linter.unusedVariables false

/-- What MakeNum should answer. -/
def makeOk (a b : ByteArray) : Bool := (goodB a.data.toList && goodB b.data.toList) && decide (dval b.data.toList ≠ 0)
def MakeAns (g : Bool) (a b : ByteArray) (e : Ending) : Prop :=
  (makeOk a b = true ∧ TellsN (g && decide (dval a.data.toList ≠ 0)) (dval a.data.toList / Nat.gcd (dval a.data.toList) (dval b.data.toList)) (dval b.data.toList / Nat.gcd (dval a.data.toList) (dval b.data.toList)) e) ∨ (makeOk a b = false ∧ Mute e)
theorem MakeAns.same {g : Bool} {a b : ByteArray} {e e' : Ending} (h : MakeAns g a b e) (h' : MakeAns g a b e') : ∃ (s : ByteArray) (o : Bool), e = .returned (.tuple #[.string s, .bool o]) ∧ e' = .returned (.tuple #[.string s, .bool o]) := by
  rcases h with ⟨g1, h⟩ | ⟨g1, h⟩ <;> rcases h' with ⟨g2, h'⟩ | ⟨g2, h'⟩
  · exact h.same h'
  · rw [g1] at g2; cases g2
  · rw [g1] at g2; cases g2
  · exact h.same h'

end Go.Proofs.YtmfpnbmfcoahbaaGreatDoor

/-
  What spec.l2Make and spec.MakeNum answer.
-/
namespace Go.Proofs.YtmfpnbmfcoahbaaGreatDoor
open Go.RowKit
set_option linter.unusedVariables false

theorem one_lt (k : Nat) (hk : k ≠ 0) : 1 < 10 ^ k := Nat.one_lt_pow hk (by decide)

theorem make_tells {g : Bool} {a b t u s : ByteArray} {G : Nat} (h0 : dval a.data.toList ≠ 0) (hC : canonB t.data.toList = true ∧ dval t.data.toList = dval a.data.toList / G ∧ canonB u.data.toList = true ∧ dval u.data.toList = dval b.data.toList / G) (h1 : t.size ≤ 600) (h2 : u.size ≤ 600)
    (h : s.data.toList = (if g then [45] else []) ++ t.data.toList ++ (if dval b.data.toList / G = 1 then [] else 47 :: u.data.toList)) : TellsN (g && decide (dval a.data.toList ≠ 0)) (dval a.data.toList / G) (dval b.data.toList / G) (.returned (.tuple #[.string s, .bool true])) := by
  rw [decide_eq_true h0, Bool.and_true]
  refine TellsN.yes ?_ ?_ ⟨t, u, InRad.dec hC.1 hC.2.1, InRad.dec hC.2.2.1 hC.2.2.2, h⟩
  · rw [← hC.2.1]; exact (canon_len_le hC.1 600 (by omega)).1 (by simpa using h1)
  · rw [← hC.2.2.2]; exact (canon_len_le hC.2.2.1 600 (by omega)).1 (by simpa using h2)

set_option maxHeartbeats 1000000 in
set_option maxRecDepth 100000 in
theorem l2Make_any (g : Bool) (a b : ByteArray) (w : World) (hsa : a.size ≤ 2000) (hsb : b.size ≤ 2000) (ha : canonB a.data.toList = true) (hb : canonB b.data.toList = true) (hb0 : dval b.data.toList ≠ 0) :
    Calls Tryz.prog 81 #[.bool g, .string a, .string b] w fun e w' => TellsN (g && decide (dval a.data.toList ≠ 0)) (dval a.data.toList / Nat.gcd (dval a.data.toList) (dval b.data.toList)) (dval b.data.toList / Nat.gcd (dval a.data.toList) (dval b.data.toList)) e ∧ Below w.heap.size w w' := by
  have HA := hideT ha
  have HB := hideT hb
  have HB0 := hideT hb0
  by_cases hz : a = ⟨#[48]⟩
  · have h0 : dval a.data.toList = 0 := by rw [hz]; decide
    have HN : Hid (TellsN (g && decide (dval a.data.toList ≠ 0)) (dval a.data.toList / Nat.gcd (dval a.data.toList) (dval b.data.toList)) (dval b.data.toList / Nat.gcd (dval a.data.toList) (dval b.data.toList)) (.returned (.tuple #[.string ⟨#[48]⟩, .bool true]))) := by
      unfold Hid
      rw [h0, Nat.gcd_zero_left, Nat.zero_div, Nat.div_self (Nat.pos_of_ne_zero hb0), decide_eq_false (by simp), Bool.and_false]
      refine TellsN.yes (Nat.lt_trans (by decide) (one_lt 600 (by decide))) (one_lt 600 (by decide)) ⟨⟨#[48]⟩, ⟨#[49]⟩, InRad.dec (by decide) (by decide), InRad.dec (by decide) (by decide), by simp⟩
    subst hz
    clear ha hb hb0 h0
    go_enter Tryz.func81, Tryz.ntmps81
    go_wp2
    go_ret2
    exact ⟨HN.out, Below.refl _ _⟩
  · have hz' : (a.toList == [48]) = false := str_ne (fun h => hz (WideShapes.bytes_inj h))
    have HT0 : Hid (dval a.data.toList ≠ 0) := fun e => hz (WideShapes.bytes_inj ((canon_zero HA.out).1 e))
    obtain ⟨G, hG⟩ : ∃ G, G = Nat.gcd (dval a.data.toList) (dval b.data.toList) := ⟨_, rfl⟩
    rw [← hG]
    have HG := hideT hG
    have HG0 : Hid (G ≠ 0) := by
      have := Nat.gcd_pos_of_pos_right (dval a.data.toList) (Nat.pos_of_ne_zero hb0)
      unfold Hid; omega
    clear hz ha hb hb0 hG
    go_enter Tryz.func81, Tryz.ntmps81
    go_wp2_with fail
    refine (l1Gcd_any a b w hsa hsb HA.out HB.out).mono ?_
    rintro e w1 ⟨c, rfl, hc, hv, hW⟩
    rw [← HG.out] at hv
    have HCC := hideT (And.intro hc hv)
    have hcs : c.size ≤ 2000 := by
      have hle : dval c.data.toList ≤ dval b.data.toList := by rw [hv, HG.out]; exact Nat.gcd_le_right _ (Nat.pos_of_ne_zero HB0.out)
      have := canon_le_size HB.out hc hle; omega
    clear hc hv
    by_cases hc1 : c.data.toList = [49]
    · have hc1' : (c.toList == [49]) = true := str_eq hc1
      have hG1 : G = 1 := by rw [← HCC.out.2]; exact (canon_one HCC.out.1).2 hc1
      clear hc1
      have HC : Hid (canonB a.data.toList = true ∧ dval a.data.toList = dval a.data.toList / G ∧ canonB b.data.toList = true ∧ dval b.data.toList = dval b.data.toList / G) := by
        unfold Hid; rw [hG1, Nat.div_one, Nat.div_one]; exact ⟨HA.out, rfl, HB.out, rfl⟩
      clear hG1
      by_cases hl1 : (600 : Int) < (a.size : Int)
      · have HN : Hid (TellsN (g && decide (dval a.data.toList ≠ 0)) (dval a.data.toList / G) (dval b.data.toList / G) (.returned (.tuple #[.string ⟨#[]⟩, .bool false]))) := TellsN.no (.inl (fun h => by
          rw [← HC.out.2.1] at h
          have := (canon_len_le HC.out.1 600 (by omega)).2 h
          simp at this; omega))
        go_wp2
        go_ret2
        exact ⟨HN.out, hW⟩
      · by_cases hl2 : (600 : Int) < (b.size : Int)
        · have HN : Hid (TellsN (g && decide (dval a.data.toList ≠ 0)) (dval a.data.toList / G) (dval b.data.toList / G) (.returned (.tuple #[.string ⟨#[]⟩, .bool false]))) := TellsN.no (.inr (fun h => by
            rw [← HC.out.2.2.2] at h
            have := (canon_len_le HC.out.2.2.1 600 (by omega)).2 h
            simp at this; omega))
          go_wp2
          go_ret2
          exact ⟨HN.out, hW⟩
        · have HY := fun (s : ByteArray) (h : s.data.toList = (if g then [45] else []) ++ a.data.toList ++ (if dval b.data.toList / G = 1 then [] else 47 :: b.data.toList)) => make_tells (s := s) (g := g) HT0.out HC.out (by omega) (by omega) h
          have HY' := hideT HY
          clear HY
          have hb1 : Hid (dval b.data.toList / G = 1 ↔ b.data.toList = [49]) := by unfold Hid; rw [← HC.out.2.2.2]; exact canon_one HC.out.2.2.1
          by_cases hu1 : b.data.toList = [49]
          · have hu1' : (b.toList == [49]) = true := str_eq hu1
            have HI : Hid (dval b.data.toList / G = 1) := hb1.out.2 hu1
            clear hu1
            cases g with
            | true =>
              go_wp2
              go_ret2
              exact ⟨HY'.out _ (by rw [if_pos HI.out]; simp [ByteArray.data_append]), hW⟩
            | false =>
              go_wp2
              go_ret2
              exact ⟨HY'.out _ (by rw [if_pos HI.out]; simp), hW⟩
          · have hu1' : (b.toList == [49]) = false := str_ne hu1
            have HI : Hid (¬ dval b.data.toList / G = 1) := fun e => hu1 (hb1.out.1 e)
            clear hu1
            cases g with
            | true =>
              go_wp2
              go_ret2
              exact ⟨HY'.out _ (by rw [if_neg HI.out]; simp [ByteArray.data_append]), hW⟩
            | false =>
              go_wp2
              go_ret2
              exact ⟨HY'.out _ (by rw [if_neg HI.out]; simp [ByteArray.data_append]), hW⟩
    · have hc1' : (c.toList == [49]) = false := str_ne hc1
      have hcz : Hid (dval c.data.toList ≠ 0) := by unfold Hid; rw [HCC.out.2]; exact HG0.out
      clear hc1
      go_wp2_with fail
      refine (l1Div_any a c w1 hsa hcs HA.out HCC.out.1 hcz.out).mono ?_
      rintro e w2 ⟨t, t', rfl, hc2, hv2, _, _, hW2⟩
      rw [HCC.out.2] at hv2
      have HC2 := hideT (And.intro hc2 hv2)
      have hts : t.size ≤ 2000 := by have := canon_le_size HA.out hc2 (by rw [hv2]; exact Nat.div_le_self _ _); omega
      have hW2' : Below w.heap.size w w2 := hW.trans (hW2.mono hW.size)
      clear hc2 hv2 hW hW2
      go_wp2_with fail
      refine (l1Div_any b c w2 hsb hcs HB.out HCC.out.1 hcz.out).mono ?_
      rintro e w3 ⟨u, u', rfl, hc3, hv3, _, _, hW3⟩
      rw [HCC.out.2] at hv3
      have hus : u.size ≤ 2000 := by have := canon_le_size HB.out hc3 (by rw [hv3]; exact Nat.div_le_self _ _); omega
      have HC : Hid (canonB t.data.toList = true ∧ dval t.data.toList = dval a.data.toList / G ∧ canonB u.data.toList = true ∧ dval u.data.toList = dval b.data.toList / G) := ⟨HC2.out.1, HC2.out.2, hc3, hv3⟩
      have hW : Below w.heap.size w w3 := hW2'.trans (hW3.mono hW2'.size)
      clear hc3 hv3 hW2' hW3
      by_cases hl1 : (600 : Int) < (t.size : Int)
      · have HN : Hid (TellsN (g && decide (dval a.data.toList ≠ 0)) (dval a.data.toList / G) (dval b.data.toList / G) (.returned (.tuple #[.string ⟨#[]⟩, .bool false]))) := TellsN.no (.inl (fun h => by
          rw [← HC.out.2.1] at h
          have := (canon_len_le HC.out.1 600 (by omega)).2 h
          simp at this; omega))
        go_wp2
        go_ret2
        exact ⟨HN.out, hW⟩
      · by_cases hl2 : (600 : Int) < (u.size : Int)
        · have HN : Hid (TellsN (g && decide (dval a.data.toList ≠ 0)) (dval a.data.toList / G) (dval b.data.toList / G) (.returned (.tuple #[.string ⟨#[]⟩, .bool false]))) := TellsN.no (.inr (fun h => by
            rw [← HC.out.2.2.2] at h
            have := (canon_len_le HC.out.2.2.1 600 (by omega)).2 h
            simp at this; omega))
          go_wp2
          go_ret2
          exact ⟨HN.out, hW⟩
        · have HY := fun (s : ByteArray) (h : s.data.toList = (if g then [45] else []) ++ t.data.toList ++ (if dval b.data.toList / G = 1 then [] else 47 :: u.data.toList)) => make_tells (s := s) (g := g) HT0.out HC.out (by omega) (by omega) h
          have HY' := hideT HY
          clear HY
          have hb1 : Hid (dval b.data.toList / G = 1 ↔ u.data.toList = [49]) := by unfold Hid; rw [← HC.out.2.2.2]; exact canon_one HC.out.2.2.1
          by_cases hu1 : u.data.toList = [49]
          · have hu1' : (u.toList == [49]) = true := str_eq hu1
            have HI : Hid (dval b.data.toList / G = 1) := hb1.out.2 hu1
            clear hu1
            cases g with
            | true =>
              go_wp2
              go_ret2
              exact ⟨HY'.out _ (by rw [if_pos HI.out]; simp [ByteArray.data_append]), hW⟩
            | false =>
              go_wp2
              go_ret2
              exact ⟨HY'.out _ (by rw [if_pos HI.out]; simp), hW⟩
          · have hu1' : (u.toList == [49]) = false := str_ne hu1
            have HI : Hid (¬ dval b.data.toList / G = 1) := fun e => hu1 (hb1.out.1 e)
            clear hu1
            cases g with
            | true =>
              go_wp2
              go_ret2
              exact ⟨HY'.out _ (by rw [if_neg HI.out]; simp [ByteArray.data_append]), hW⟩
            | false =>
              go_wp2
              go_ret2
              exact ⟨HY'.out _ (by rw [if_neg HI.out]; simp [ByteArray.data_append]), hW⟩

end Go.Proofs.YtmfpnbmfcoahbaaGreatDoor

/-
  What impl.DivNat answers.
-/
namespace Go.Proofs.YtmfpnbmfcoahbaaGreatDoor
open Go.RowKit
set_option linter.unusedVariables false

/-- It tells two numbers. -/
def Tells2 (n m : Nat) (e : Ending) : Prop := ∃ s t : ByteArray, e = .returned (.tuple #[.string s, .string t, .bool true]) ∧ canonB s.data.toList = true ∧ dval s.data.toList = n ∧ canonB t.data.toList = true ∧ dval t.data.toList = m
def Mute2 (e : Ending) : Prop := e = .returned (.tuple #[.string ⟨#[]⟩, .string ⟨#[]⟩, .bool false])
def Ans2 (g : Bool) (n m : Nat) (e : Ending) : Prop := (g = true ∧ Tells2 n m e) ∨ (g = false ∧ Mute2 e)
theorem Ans2.same {g : Bool} {n m : Nat} {e e' : Ending} (h : Ans2 g n m e) (h' : Ans2 g n m e') : ∃ (s t : ByteArray) (o : Bool), e = .returned (.tuple #[.string s, .string t, .bool o]) ∧ e' = .returned (.tuple #[.string s, .string t, .bool o]) := by
  rcases h with ⟨g1, h⟩ | ⟨g1, h⟩ <;> rcases h' with ⟨g2, h'⟩ | ⟨g2, h'⟩
  · obtain ⟨s, t, rfl, c1, v1, c2, v2⟩ := h
    obtain ⟨s', t', rfl, c1', v1', c2', v2'⟩ := h'
    obtain rfl : s = s' := Go.WideShapes.bytes_inj (canon_inj c1 c1' (by rw [v1, v1']))
    obtain rfl : t = t' := Go.WideShapes.bytes_inj (canon_inj c2 c2' (by rw [v2, v2']))
    exact ⟨s, t, true, rfl, rfl⟩
  · rw [g1] at g2; cases g2
  · rw [g1] at g2; cases g2
  · exact ⟨_, _, _, h, h'⟩

/-- May a be divided by b? -/
def divOk (a b : ByteArray) : Bool := (goodB a.data.toList && goodB b.data.toList) && decide (dval b.data.toList ≠ 0)

end Go.Proofs.YtmfpnbmfcoahbaaGreatDoor

/-
  What impl.GcdNat answers.
-/
namespace Go.Proofs.YtmfpnbmfcoahbaaGreatDoor
open Go.RowKit
set_option linter.unusedVariables false

set_option maxHeartbeats 1000000 in
set_option maxRecDepth 100000 in
theorem implGcd_any (a b : ByteArray) (w : World) (hsa : a.size ≤ maxLen) (hsb : b.size ≤ maxLen) (hT : Tab w.heap.size w) :
    Calls Tryz.prog 7 #[.string a, .string b] w fun e w' => Ans (goodB a.data.toList && goodB b.data.toList) (Nat.gcd (dval a.data.toList) (dval b.data.toList)) e ∧ Below w.heap.size w w' := by
  have hz := zero_nat.1
  have HT : Hid (Tab w.heap.size w) := hT
  clear hT
  go_enter Tryz.func7, Tryz.ntmps7
  go_wp2_with fail
  refine (readNats_any a b _ hsa hsb).mono ?_
  rintro e w1 ⟨k, m, p, q, oa, ob, rfl, hRa, hRb, hW1⟩
  have hp := hRa.len
  have hq := hRb.len
  have hs1 := hW1.size
  have A := (NatAt.new w1 0 zP).old (.cells (natC 0 zP) 32)
  have B := NatAt.new (w1.alloc (.cells (natC 0 zP) 32)) 0 zP
  have hB : Below w.heap.size w ((w1.alloc (.cells (natC 0 zP) 32)).alloc (.cells (natC 0 zP) 32)) := (hW1.alloc (by omega) _).alloc (by simp; omega) _
  simp only [World.size_alloc] at B
  have hok : oa = goodB a.data.toList := hRa.ok
  have hok' : ob = goodB b.data.toList := hRb.ok
  cases hg : (oa && ob) with
  | true =>
    have HG : Hid ((goodB a.data.toList && goodB b.data.toList) = true) := by unfold Hid; rw [← hok, ← hok']; exact hg
    have hga : goodB a.data.toList = true := by have := HG.out; simp only [Bool.and_eq_true] at this; exact this.1
    have hgb : goodB b.data.toList = true := by have := HG.out; simp only [Bool.and_eq_true] at this; exact this.2
    have ra : Rep (dval a.data.toList) k p := hRa.rep hga
    have rb : Rep (dval b.data.toList) m q := hRb.rep hgb
    have hk := ra.small (good_lt hga)
    have hm := rb.small (good_lt hgb)
    have RA := hideT (And.intro ra rb)
    clear hg hga hgb ra rb
    go_wp2_with (first | (refine store_nat rfl _ _ rfl rfl w1.heap.size k p rfl rfl 0 zP A zP_len hp ?_; intro w2 hN2 hg2 hs2) | (refine store_nat rfl _ _ rfl rfl (w1.heap.size + 1) m q rfl rfl 0 zP (B.grown hg2 (by simp)) zP_len hq ?_; intro w3 hN3 hg3 hs3) | (refine load_nat rfl _ rfl w1.heap.size rfl k p (hN2.grown hg3 (by simp)) hp ?_) | (refine load_nat rfl _ rfl (w1.heap.size + 1) rfl m q hN3 hq ?_))
    refine (gcd_any w3 RA.out.1 RA.out.2 (by omega) (by omega)).mono ?_
    rintro e w4 ⟨i, r, rfl, hR, hW4⟩
    have hB3 : Below w.heap.size w w3 := (hB.grown hg2 (by simp; omega) (by intro k hk; cases hk; omega)).grown hg3 (by rw [hs2]; simp; omega) (by intro k hk; cases hk; omega)
    have hs3 := hB3.size
    have hB4 : Below w.heap.size w w4 := hB3.trans (hW4.mono (by omega))
    have hs4 := hB4.size
    have HR := hideT hR
    have HT4 : Hid (Tab w4.heap.size w4) := (HT.out.on hB4).up hs4
    clear A B hB hN2 hg2 hs2 hN3 hg3 hB3 hW4 hR
    go_wp2_with fail
    refine (tellNat_any w4 HR.out HT4.out).mono ?_
    rintro e w5 ⟨s, rfl, h1, h2, hW5⟩
    have HS := hideT (And.intro h1 h2)
    obtain ⟨bb, hbb⟩ : ∃ bb, bb = decide (Nat.gcd (dval a.data.toList) (dval b.data.toList) < 10 ^ 600) := ⟨_, rfl⟩
    rw [← hbb]
    have HBB := hideT hbb
    clear hbb h1 h2
    go_wp2
    go_ret2
    exact ⟨.inl ⟨HG.out, s, by rw [← HBB.out]; rfl, HS.out.1, HS.out.2⟩, hB4.trans (hW5.mono hs4)⟩
  | false =>
    have HG : Hid ((goodB a.data.toList && goodB b.data.toList) = false) := by unfold Hid; rw [← hok, ← hok']; exact hg
    clear hg
    go_wp2_with (first | (refine store_nat rfl _ _ rfl rfl w1.heap.size k p rfl rfl 0 zP A zP_len hp ?_; intro w2 hN2 hg2 hs2) | (refine store_nat rfl _ _ rfl rfl (w1.heap.size + 1) m q rfl rfl 0 zP (B.grown hg2 (by simp)) zP_len hq ?_; intro w3 hN3 hg3 hs3))
    go_ret2
    exact ⟨.inr ⟨HG.out, rfl⟩, (hB.grown hg2 (by simp; omega) (by intro k hk; cases hk; omega)).grown hg3 (by rw [hs2]; simp; omega) (by intro k hk; cases hk; omega)⟩
end Go.Proofs.YtmfpnbmfcoahbaaGreatDoor

/-
  What impl.SubNat answers.
-/
namespace Go.Proofs.YtmfpnbmfcoahbaaGreatDoor
open Go.RowKit
set_option linter.unusedVariables false

end Go.Proofs.YtmfpnbmfcoahbaaGreatDoor

/-
  What impl.ToRadix and spec.ToRadix answer.
-/
namespace Go.Proofs.YtmfpnbmfcoahbaaGreatDoor
open Go.RowKit
set_option linter.unusedVariables false

/-- What ToRadix should answer. -/
def AnsR (a : ByteArray) (r : Int) (e : Ending) : Prop :=
  ((goodB a.data.toList && radOk r) = true ∧ ∃ s : ByteArray, e = .returned (.tuple #[.string s, .bool true]) ∧ InRad r.toNat (dval a.data.toList) s) ∨ ((goodB a.data.toList && radOk r) = false ∧ Mute e)

theorem AnsR.same {a : ByteArray} {r : Int} {e e' : Ending} (h : AnsR a r e) (h' : AnsR a r e') : ∃ (s : ByteArray) (o : Bool), e = .returned (.tuple #[.string s, .bool o]) ∧ e' = .returned (.tuple #[.string s, .bool o]) := by
  rcases h with ⟨g1, s, rfl, h⟩ | ⟨g1, h⟩ <;> rcases h' with ⟨g2, t, rfl, h'⟩ | ⟨g2, h'⟩
  · obtain rfl := h.inj h'
    exact ⟨s, true, rfl, rfl⟩
  · rw [g1] at g2; cases g2
  · rw [g1] at g2; cases g2
  · exact h.same h'

theorem rad_nat' {r : Int} (h : radOk r = true) : r = (r.toNat : Int) ∧ 2 ≤ r ∧ r ≤ 16 := by
  have := (radOk_iff r).1 h
  exact ⟨by omega, by omega, by omega⟩

end Go.Proofs.YtmfpnbmfcoahbaaGreatDoor

/-
  What spec.DivNat answers.
-/
namespace Go.Proofs.YtmfpnbmfcoahbaaGreatDoor
open Go.RowKit
set_option linter.unusedVariables false

end Go.Proofs.YtmfpnbmfcoahbaaGreatDoor
