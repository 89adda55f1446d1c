/-
  The texts PkImplMake, NumOf, RecArg, RealLaw, one behind the other, as one.
-/
import Derived.Test.YteglkbgcgookhaaDoorPkImplDigits
import Derived.Test.YteglkbgcgookhaaDoorPkHeld
import Derived.Test.YteglkbgcgookhaaDoorImplAdd
import Derived.Test.YteglkbgcgookhaaDoorPkSpecAdd
import Derived.Test.YteglkbgcgookhaaDoorPkSpecSub
import Derived.Test.YteglkbgcgookhaaDoorPkDivideA
import Derived.Test.YteglkbgcgookhaaDoorText
import Derived.OwnWalk
import Derived.Test.YteglkbgcgookhaaDoorRealParts
import Derived.Test.YteglkbgcgookhaaDoorSpecReal
import Derived.Test.YteglkbgcgookhaaDoorRecs
import Derived.Deep.Strs
import Derived.Carry
import Derived.WalkKit
import Derived.ProofKit
import Derived.OpenShut
import Derived.ShutString
import Derived.ChangeOld
import Derived.Test.YteglkbgcgookhaaDoorRealMem

/-
  The texts ImplMake, SpecMake, ImplDiv, ImplGcdNat, ImplSub, ImplToRadix, SpecDivNat, one behind the other.
-/

/-
  What impl.MakeNum answers.
-/
namespace Go.Proofs.YteglkbgcgookhaaDoor
open Go.RowKit
set_option linter.unusedVariables false

/-- What MakeNum should answer. -/
def makeOk (a b : ByteArray) : Bool := (goodB a.data.toList && goodB b.data.toList) && decide (dval b.data.toList ≠ 0)
def MakeAns (g : Bool) (a b : ByteArray) (e : Ending) : Prop :=
  (makeOk a b = true ∧ TellsN (g && decide (dval a.data.toList ≠ 0)) (dval a.data.toList / Nat.gcd (dval a.data.toList) (dval b.data.toList)) (dval b.data.toList / Nat.gcd (dval a.data.toList) (dval b.data.toList)) e) ∨ (makeOk a b = false ∧ Mute e)
theorem MakeAns.same {g : Bool} {a b : ByteArray} {e e' : Ending} (h : MakeAns g a b e) (h' : MakeAns g a b e') : ∃ (s : ByteArray) (o : Bool), e = .returned (.tuple #[.string s, .bool o]) ∧ e' = .returned (.tuple #[.string s, .bool o]) := by
  rcases h with ⟨g1, h⟩ | ⟨g1, h⟩ <;> rcases h' with ⟨g2, h'⟩ | ⟨g2, h'⟩
  · exact h.same h'
  · rw [g1] at g2; cases g2
  · rw [g1] at g2; cases g2
  · exact h.same h'

end Go.Proofs.YteglkbgcgookhaaDoor

/-
  What spec.l2Make and spec.MakeNum answer.
-/
namespace Go.Proofs.YteglkbgcgookhaaDoor
open Go.RowKit
set_option linter.unusedVariables false

theorem one_lt (k : Nat) (hk : k ≠ 0) : 1 < 10 ^ k := Nat.one_lt_pow hk (by decide)

theorem make_tells {g : Bool} {a b t u s : ByteArray} {G : Nat} (h0 : dval a.data.toList ≠ 0) (hC : canonB t.data.toList = true ∧ dval t.data.toList = dval a.data.toList / G ∧ canonB u.data.toList = true ∧ dval u.data.toList = dval b.data.toList / G) (h1 : t.size ≤ 600) (h2 : u.size ≤ 600)
    (h : s.data.toList = (if g then [45] else []) ++ t.data.toList ++ (if dval b.data.toList / G = 1 then [] else 47 :: u.data.toList)) : TellsN (g && decide (dval a.data.toList ≠ 0)) (dval a.data.toList / G) (dval b.data.toList / G) (.returned (.tuple #[.string s, .bool true])) := by
  rw [decide_eq_true h0, Bool.and_true]
  refine TellsN.yes ?_ ?_ ⟨t, u, InRad.dec hC.1 hC.2.1, InRad.dec hC.2.2.1 hC.2.2.2, h⟩
  · rw [← hC.2.1]; exact (canon_len_le hC.1 600 (by omega)).1 (by simpa using h1)
  · rw [← hC.2.2.2]; exact (canon_len_le hC.2.2.1 600 (by omega)).1 (by simpa using h2)

set_option maxHeartbeats 1000000 in
set_option maxRecDepth 100000 in
theorem l2Make_any (g : Bool) (a b : ByteArray) (w : World) (hsa : a.size ≤ 2000) (hsb : b.size ≤ 2000) (ha : canonB a.data.toList = true) (hb : canonB b.data.toList = true) (hb0 : dval b.data.toList ≠ 0) :
    Calls Tryd.prog 64 #[.bool g, .string a, .string b] w fun e w' => TellsN (g && decide (dval a.data.toList ≠ 0)) (dval a.data.toList / Nat.gcd (dval a.data.toList) (dval b.data.toList)) (dval b.data.toList / Nat.gcd (dval a.data.toList) (dval b.data.toList)) e ∧ Below w.heap.size w w' := by
  have HA := hideT ha
  have HB := hideT hb
  have HB0 := hideT hb0
  by_cases hz : a = ⟨#[48]⟩
  · have h0 : dval a.data.toList = 0 := by rw [hz]; decide
    have HN : Hid (TellsN (g && decide (dval a.data.toList ≠ 0)) (dval a.data.toList / Nat.gcd (dval a.data.toList) (dval b.data.toList)) (dval b.data.toList / Nat.gcd (dval a.data.toList) (dval b.data.toList)) (.returned (.tuple #[.string ⟨#[48]⟩, .bool true]))) := by
      unfold Hid
      rw [h0, Nat.gcd_zero_left, Nat.zero_div, Nat.div_self (Nat.pos_of_ne_zero hb0), decide_eq_false (by simp), Bool.and_false]
      refine TellsN.yes (Nat.lt_trans (by decide) (one_lt 600 (by decide))) (one_lt 600 (by decide)) ⟨⟨#[48]⟩, ⟨#[49]⟩, InRad.dec (by decide) (by decide), InRad.dec (by decide) (by decide), by simp⟩
    subst hz
    clear ha hb hb0 h0
    go_enter Tryd.func64, Tryd.ntmps64
    go_wp2
    go_ret2
    exact ⟨HN.out, Below.refl _ _⟩
  · have hz' : (a.toList == [48]) = false := str_ne (fun h => hz (WideShapes.bytes_inj h))
    have HT0 : Hid (dval a.data.toList ≠ 0) := fun e => hz (WideShapes.bytes_inj ((canon_zero HA.out).1 e))
    obtain ⟨G, hG⟩ : ∃ G, G = Nat.gcd (dval a.data.toList) (dval b.data.toList) := ⟨_, rfl⟩
    rw [← hG]
    have HG := hideT hG
    have HG0 : Hid (G ≠ 0) := by
      have := Nat.gcd_pos_of_pos_right (dval a.data.toList) (Nat.pos_of_ne_zero hb0)
      unfold Hid; omega
    clear hz ha hb hb0 hG
    go_enter Tryd.func64, Tryd.ntmps64
    go_wp2_with fail
    refine (l1Gcd_any a b w hsa hsb HA.out HB.out).mono ?_
    rintro e w1 ⟨c, rfl, hc, hv, hW⟩
    rw [← HG.out] at hv
    have HCC := hideT (And.intro hc hv)
    have hcs : c.size ≤ 2000 := by
      have hle : dval c.data.toList ≤ dval b.data.toList := by rw [hv, HG.out]; exact Nat.gcd_le_right _ (Nat.pos_of_ne_zero HB0.out)
      have := canon_le_size HB.out hc hle; omega
    clear hc hv
    by_cases hc1 : c.data.toList = [49]
    · have hc1' : (c.toList == [49]) = true := str_eq hc1
      have hG1 : G = 1 := by rw [← HCC.out.2]; exact (canon_one HCC.out.1).2 hc1
      clear hc1
      have HC : Hid (canonB a.data.toList = true ∧ dval a.data.toList = dval a.data.toList / G ∧ canonB b.data.toList = true ∧ dval b.data.toList = dval b.data.toList / G) := by
        unfold Hid; rw [hG1, Nat.div_one, Nat.div_one]; exact ⟨HA.out, rfl, HB.out, rfl⟩
      clear hG1
      by_cases hl1 : (600 : Int) < (a.size : Int)
      · have HN : Hid (TellsN (g && decide (dval a.data.toList ≠ 0)) (dval a.data.toList / G) (dval b.data.toList / G) (.returned (.tuple #[.string ⟨#[]⟩, .bool false]))) := TellsN.no (.inl (fun h => by
          rw [← HC.out.2.1] at h
          have := (canon_len_le HC.out.1 600 (by omega)).2 h
          simp at this; omega))
        go_wp2
        go_ret2
        exact ⟨HN.out, hW⟩
      · by_cases hl2 : (600 : Int) < (b.size : Int)
        · have HN : Hid (TellsN (g && decide (dval a.data.toList ≠ 0)) (dval a.data.toList / G) (dval b.data.toList / G) (.returned (.tuple #[.string ⟨#[]⟩, .bool false]))) := TellsN.no (.inr (fun h => by
            rw [← HC.out.2.2.2] at h
            have := (canon_len_le HC.out.2.2.1 600 (by omega)).2 h
            simp at this; omega))
          go_wp2
          go_ret2
          exact ⟨HN.out, hW⟩
        · have HY := fun (s : ByteArray) (h : s.data.toList = (if g then [45] else []) ++ a.data.toList ++ (if dval b.data.toList / G = 1 then [] else 47 :: b.data.toList)) => make_tells (s := s) (g := g) HT0.out HC.out (by omega) (by omega) h
          have HY' := hideT HY
          clear HY
          have hb1 : Hid (dval b.data.toList / G = 1 ↔ b.data.toList = [49]) := by unfold Hid; rw [← HC.out.2.2.2]; exact canon_one HC.out.2.2.1
          by_cases hu1 : b.data.toList = [49]
          · have hu1' : (b.toList == [49]) = true := str_eq hu1
            have HI : Hid (dval b.data.toList / G = 1) := hb1.out.2 hu1
            clear hu1
            cases g with
            | true =>
              go_wp2
              go_ret2
              exact ⟨HY'.out _ (by rw [if_pos HI.out]; simp [ByteArray.data_append]), hW⟩
            | false =>
              go_wp2
              go_ret2
              exact ⟨HY'.out _ (by rw [if_pos HI.out]; simp), hW⟩
          · have hu1' : (b.toList == [49]) = false := str_ne hu1
            have HI : Hid (¬ dval b.data.toList / G = 1) := fun e => hu1 (hb1.out.1 e)
            clear hu1
            cases g with
            | true =>
              go_wp2
              go_ret2
              exact ⟨HY'.out _ (by rw [if_neg HI.out]; simp [ByteArray.data_append]), hW⟩
            | false =>
              go_wp2
              go_ret2
              exact ⟨HY'.out _ (by rw [if_neg HI.out]; simp [ByteArray.data_append]), hW⟩
    · have hc1' : (c.toList == [49]) = false := str_ne hc1
      have hcz : Hid (dval c.data.toList ≠ 0) := by unfold Hid; rw [HCC.out.2]; exact HG0.out
      clear hc1
      go_wp2_with fail
      refine (l1Div_any a c w1 hsa hcs HA.out HCC.out.1 hcz.out).mono ?_
      rintro e w2 ⟨t, t', rfl, hc2, hv2, _, _, hW2⟩
      rw [HCC.out.2] at hv2
      have HC2 := hideT (And.intro hc2 hv2)
      have hts : t.size ≤ 2000 := by have := canon_le_size HA.out hc2 (by rw [hv2]; exact Nat.div_le_self _ _); omega
      have hW2' : Below w.heap.size w w2 := hW.trans (hW2.mono hW.size)
      clear hc2 hv2 hW hW2
      go_wp2_with fail
      refine (l1Div_any b c w2 hsb hcs HB.out HCC.out.1 hcz.out).mono ?_
      rintro e w3 ⟨u, u', rfl, hc3, hv3, _, _, hW3⟩
      rw [HCC.out.2] at hv3
      have hus : u.size ≤ 2000 := by have := canon_le_size HB.out hc3 (by rw [hv3]; exact Nat.div_le_self _ _); omega
      have HC : Hid (canonB t.data.toList = true ∧ dval t.data.toList = dval a.data.toList / G ∧ canonB u.data.toList = true ∧ dval u.data.toList = dval b.data.toList / G) := ⟨HC2.out.1, HC2.out.2, hc3, hv3⟩
      have hW : Below w.heap.size w w3 := hW2'.trans (hW3.mono hW2'.size)
      clear hc3 hv3 hW2' hW3
      by_cases hl1 : (600 : Int) < (t.size : Int)
      · have HN : Hid (TellsN (g && decide (dval a.data.toList ≠ 0)) (dval a.data.toList / G) (dval b.data.toList / G) (.returned (.tuple #[.string ⟨#[]⟩, .bool false]))) := TellsN.no (.inl (fun h => by
          rw [← HC.out.2.1] at h
          have := (canon_len_le HC.out.1 600 (by omega)).2 h
          simp at this; omega))
        go_wp2
        go_ret2
        exact ⟨HN.out, hW⟩
      · by_cases hl2 : (600 : Int) < (u.size : Int)
        · have HN : Hid (TellsN (g && decide (dval a.data.toList ≠ 0)) (dval a.data.toList / G) (dval b.data.toList / G) (.returned (.tuple #[.string ⟨#[]⟩, .bool false]))) := TellsN.no (.inr (fun h => by
            rw [← HC.out.2.2.2] at h
            have := (canon_len_le HC.out.2.2.1 600 (by omega)).2 h
            simp at this; omega))
          go_wp2
          go_ret2
          exact ⟨HN.out, hW⟩
        · have HY := fun (s : ByteArray) (h : s.data.toList = (if g then [45] else []) ++ t.data.toList ++ (if dval b.data.toList / G = 1 then [] else 47 :: u.data.toList)) => make_tells (s := s) (g := g) HT0.out HC.out (by omega) (by omega) h
          have HY' := hideT HY
          clear HY
          have hb1 : Hid (dval b.data.toList / G = 1 ↔ u.data.toList = [49]) := by unfold Hid; rw [← HC.out.2.2.2]; exact canon_one HC.out.2.2.1
          by_cases hu1 : u.data.toList = [49]
          · have hu1' : (u.toList == [49]) = true := str_eq hu1
            have HI : Hid (dval b.data.toList / G = 1) := hb1.out.2 hu1
            clear hu1
            cases g with
            | true =>
              go_wp2
              go_ret2
              exact ⟨HY'.out _ (by rw [if_pos HI.out]; simp [ByteArray.data_append]), hW⟩
            | false =>
              go_wp2
              go_ret2
              exact ⟨HY'.out _ (by rw [if_pos HI.out]; simp), hW⟩
          · have hu1' : (u.toList == [49]) = false := str_ne hu1
            have HI : Hid (¬ dval b.data.toList / G = 1) := fun e => hu1 (hb1.out.1 e)
            clear hu1
            cases g with
            | true =>
              go_wp2
              go_ret2
              exact ⟨HY'.out _ (by rw [if_neg HI.out]; simp [ByteArray.data_append]), hW⟩
            | false =>
              go_wp2
              go_ret2
              exact ⟨HY'.out _ (by rw [if_neg HI.out]; simp [ByteArray.data_append]), hW⟩

end Go.Proofs.YteglkbgcgookhaaDoor

/-
  What impl.DivNat answers.
-/
namespace Go.Proofs.YteglkbgcgookhaaDoor
open Go.RowKit
set_option linter.unusedVariables false

/-- It tells two numbers. -/
def Tells2 (n m : Nat) (e : Ending) : Prop := ∃ s t : ByteArray, e = .returned (.tuple #[.string s, .string t, .bool true]) ∧ canonB s.data.toList = true ∧ dval s.data.toList = n ∧ canonB t.data.toList = true ∧ dval t.data.toList = m
def Mute2 (e : Ending) : Prop := e = .returned (.tuple #[.string ⟨#[]⟩, .string ⟨#[]⟩, .bool false])
def Ans2 (g : Bool) (n m : Nat) (e : Ending) : Prop := (g = true ∧ Tells2 n m e) ∨ (g = false ∧ Mute2 e)
theorem Ans2.same {g : Bool} {n m : Nat} {e e' : Ending} (h : Ans2 g n m e) (h' : Ans2 g n m e') : ∃ (s t : ByteArray) (o : Bool), e = .returned (.tuple #[.string s, .string t, .bool o]) ∧ e' = .returned (.tuple #[.string s, .string t, .bool o]) := by
  rcases h with ⟨g1, h⟩ | ⟨g1, h⟩ <;> rcases h' with ⟨g2, h'⟩ | ⟨g2, h'⟩
  · obtain ⟨s, t, rfl, c1, v1, c2, v2⟩ := h
    obtain ⟨s', t', rfl, c1', v1', c2', v2'⟩ := h'
    obtain rfl : s = s' := Go.WideShapes.bytes_inj (canon_inj c1 c1' (by rw [v1, v1']))
    obtain rfl : t = t' := Go.WideShapes.bytes_inj (canon_inj c2 c2' (by rw [v2, v2']))
    exact ⟨s, t, true, rfl, rfl⟩
  · rw [g1] at g2; cases g2
  · rw [g1] at g2; cases g2
  · exact ⟨_, _, _, h, h'⟩

/-- May a be divided by b? -/
def divOk (a b : ByteArray) : Bool := (goodB a.data.toList && goodB b.data.toList) && decide (dval b.data.toList ≠ 0)

end Go.Proofs.YteglkbgcgookhaaDoor

/-
  What impl.GcdNat answers.
-/
namespace Go.Proofs.YteglkbgcgookhaaDoor
open Go.RowKit
set_option linter.unusedVariables false

end Go.Proofs.YteglkbgcgookhaaDoor

/-
  What impl.SubNat answers.
-/
namespace Go.Proofs.YteglkbgcgookhaaDoor
open Go.RowKit
set_option linter.unusedVariables false

end Go.Proofs.YteglkbgcgookhaaDoor

/-
  What impl.ToRadix and spec.ToRadix answer.
-/
namespace Go.Proofs.YteglkbgcgookhaaDoor
open Go.RowKit
set_option linter.unusedVariables false

/-- What ToRadix should answer. -/
def AnsR (a : ByteArray) (r : Int) (e : Ending) : Prop :=
  ((goodB a.data.toList && radOk r) = true ∧ ∃ s : ByteArray, e = .returned (.tuple #[.string s, .bool true]) ∧ InRad r.toNat (dval a.data.toList) s) ∨ ((goodB a.data.toList && radOk r) = false ∧ Mute e)

theorem AnsR.same {a : ByteArray} {r : Int} {e e' : Ending} (h : AnsR a r e) (h' : AnsR a r e') : ∃ (s : ByteArray) (o : Bool), e = .returned (.tuple #[.string s, .bool o]) ∧ e' = .returned (.tuple #[.string s, .bool o]) := by
  rcases h with ⟨g1, s, rfl, h⟩ | ⟨g1, h⟩ <;> rcases h' with ⟨g2, t, rfl, h'⟩ | ⟨g2, h'⟩
  · obtain rfl := h.inj h'
    exact ⟨s, true, rfl, rfl⟩
  · rw [g1] at g2; cases g2
  · rw [g1] at g2; cases g2
  · exact h.same h'

theorem rad_nat' {r : Int} (h : radOk r = true) : r = (r.toNat : Int) ∧ 2 ≤ r ∧ r ≤ 16 := by
  have := (radOk_iff r).1 h
  exact ⟨by omega, by omega, by omega⟩

end Go.Proofs.YteglkbgcgookhaaDoor

/-
  What spec.DivNat answers.
-/
namespace Go.Proofs.YteglkbgcgookhaaDoor
open Go.RowKit
set_option linter.unusedVariables false

end Go.Proofs.YteglkbgcgookhaaDoor

/-
  What NumOfReal of impl and of spec answer.
-/
namespace Go.Proofs.YteglkbgcgookhaaDoor
open Go.RowKit
set_option linter.unusedVariables false

theorem cop_dvd {p q n d : Nat} (h : Nat.gcd p q = 1) (he : p * d = n * q) : p ∣ n := by
  have h1 : p ∣ n * q := ⟨d, he.symm⟩
  exact Nat.Coprime.dvd_of_dvd_mul_right h h1
/-- Lowest terms are one. -/
theorem low_one {P Q N D : Nat} (he : P * D = N * Q) (hQ : Q ≠ 0) (hD : D ≠ 0) : P / Nat.gcd P Q = N / Nat.gcd N D ∧ Q / Nat.gcd P Q = D / Nat.gcd N D := by
  have hg1 : 0 < Nat.gcd P Q := Nat.gcd_pos_of_pos_right P (Nat.pos_of_ne_zero hQ)
  have hg2 : 0 < Nat.gcd N D := Nat.gcd_pos_of_pos_right N (Nat.pos_of_ne_zero hD)
  have c1 : Nat.gcd (P / Nat.gcd P Q) (Q / Nat.gcd P Q) = 1 := by rw [Nat.gcd_div (Nat.gcd_dvd_left P Q) (Nat.gcd_dvd_right P Q), Nat.div_self hg1]
  have c2 : Nat.gcd (N / Nat.gcd N D) (D / Nat.gcd N D) = 1 := by rw [Nat.gcd_div (Nat.gcd_dvd_left N D) (Nat.gcd_dvd_right N D), Nat.div_self hg2]
  have e1 : P = P / Nat.gcd P Q * Nat.gcd P Q := (Nat.div_mul_cancel (Nat.gcd_dvd_left P Q)).symm
  have e2 : Q = Q / Nat.gcd P Q * Nat.gcd P Q := (Nat.div_mul_cancel (Nat.gcd_dvd_right P Q)).symm
  have e3 : N = N / Nat.gcd N D * Nat.gcd N D := (Nat.div_mul_cancel (Nat.gcd_dvd_left N D)).symm
  have e4 : D = D / Nat.gcd N D * Nat.gcd N D := (Nat.div_mul_cancel (Nat.gcd_dvd_right N D)).symm
  generalize hg : Nat.gcd P Q = g at *
  generalize hk : Nat.gcd N D = k at *
  generalize P / g = p at *
  generalize Q / g = q at *
  generalize N / k = n at *
  generalize D / k = d at *
  have key : p * d = n * q := by
    rw [e1, e2, e3, e4] at he
    have h2 : (g * k) * (p * d) = (g * k) * (n * q) := by
      grind
    exact Nat.eq_of_mul_eq_mul_left (Nat.mul_pos hg1 hg2) h2
  have a1 : p ∣ n := cop_dvd c1 key
  have a2 : n ∣ p := cop_dvd c2 key.symm
  have a3 : q ∣ d := cop_dvd (by rw [Nat.gcd_comm]; exact c1) (show q * n = d * p by rw [Nat.mul_comm, ← key, Nat.mul_comm])
  have a4 : d ∣ q := cop_dvd (by rw [Nat.gcd_comm]; exact c2) (show d * p = q * n by rw [Nat.mul_comm, key, Nat.mul_comm])
  exact ⟨Nat.dvd_antisymm a1 a2, Nat.dvd_antisymm a3 a4⟩

/-- What NumOfReal answers. -/
def NumAns (g : Bool) (m e : Int) (v : Ending) : Prop :=
  (finB m e = false ∧ v = .returned (.tuple #[.string ⟨#[]⟩, .bool false])) ∨
  (finB m e = true ∧ ∃ s : ByteArray, v = .returned (.tuple #[.string s, .bool true]) ∧ TellsN (g && decide (m.toNat ≠ 0)) (vN m.toNat e / Nat.gcd (vN m.toNat e) (vD e)) (vD e / Nat.gcd (vN m.toNat e) (vD e)) (.returned (.tuple #[.string s, .bool true])))
theorem NumAns.same {g : Bool} {m e : Int} {v v' : Ending} (h : NumAns g m e v) (h' : NumAns g m e v') : ∃ (s : ByteArray) (o : Bool), v = .returned (.tuple #[.string s, .bool o]) ∧ v' = .returned (.tuple #[.string s, .bool o]) := by
  rcases h with ⟨h1, rfl⟩ | ⟨h1, s, rfl, hs⟩
  · rcases h' with ⟨h2, rfl⟩ | ⟨h2, _⟩
    · exact ⟨_, _, rfl, rfl⟩
    · rw [h1] at h2; cases h2
  · rcases h' with ⟨h2, _⟩ | ⟨h2, s', rfl, hs'⟩
    · rw [h1] at h2; cases h2
    · obtain ⟨t, o, e1, e2⟩ := hs.same hs'
      exact ⟨t, o, e1, e2⟩
/-- It is told. -/
theorem TellsN.told {g : Bool} {n m : Nat} {e : Ending} (h : TellsN g n m e) (h1 : n < 10 ^ 600) (h2 : m < 10 ^ 600) : ∃ s : ByteArray, e = .returned (.tuple #[.string s, .bool true]) := by
  obtain ⟨s, rfl, _⟩ := h
  exact ⟨s, by rw [decide_eq_true h1, decide_eq_true h2]; rfl⟩
theorem low_ten {n : Nat} {e : Int} (h : FinR n e) : vN n e / Nat.gcd (vN n e) (vD e) < 10 ^ 600 ∧ vD e / Nat.gcd (vN n e) (vD e) < 10 ^ 600 := by
  have he : -150 ≤ e := by unfold FinR at h; omega
  refine ⟨Nat.lt_of_le_of_lt (Nat.div_le_self _ _) (Nat.lt_trans (vN_lt h) (two_lt 203 (by omega))), Nat.lt_of_le_of_lt (Nat.div_le_self _ _) (Nat.lt_of_le_of_lt (vD_lt he) (two_lt 150 (by omega)))⟩

set_option maxHeartbeats 4000000 in
set_option maxRecDepth 100000 in
theorem implNumOf_any (g : Bool) (m e : Int) (w : World) (hT : Tab w.heap.size w) :
    Calls Tryd.prog 10 #[.agg #[.bool g, .int .i64 m, .int .i64 e]] w fun e' w' => NumAns g m e e' ∧ Below w.heap.size w w' := by
  have A := RowAt.new w 26 #[.bool g, .int .i64 m, .int .i64 e]
  have hB : Below w.heap.size w (w.alloc (.cells #[.bool g, .int .i64 m, .int .i64 e] 26)) := (Below.refl _ _).alloc (Nat.le_refl _) _
  have HF := hide (isFinite_any g m e (w.alloc (.cells #[.bool g, .int .i64 m, .int .i64 e] 26)))
  obtain ⟨f, hf⟩ : ∃ f, f = finB m e := ⟨_, rfl⟩
  rw [← hf] at HF
  have HH := hide hf
  have HT := hide hT
  clear hf hT
  go_enter Tryd.func10, Tryd.ntmps10
  go_wp2_with fail
  refine HF.out.mono ?_
  rintro _ w1 ⟨rfl, hW1⟩
  have hs1 := hW1.size
  simp only [World.size_alloc] at hs1
  have A1 := RowAt.below A hW1 (by simp)
  have hB1 : Below w.heap.size w w1 := hB.trans (hW1.mono (by simp))
  have c0 : w1.cell? ⟨w.heap.size, 0, none⟩ = some (.bool g) := by rw [cell_of_row w1 _ _ _ _ _ A1]; rfl
  have c1 : w1.cell? ⟨w.heap.size, 1, none⟩ = some (.int .i64 m) := by rw [cell_of_row w1 _ _ _ _ _ A1]; rfl
  have c2 : w1.cell? ⟨w.heap.size, 2, none⟩ = some (.int .i64 e) := by rw [cell_of_row w1 _ _ _ _ _ A1]; rfl
  clear A hB hW1 HF A1
  cases f with
  | false =>
    have HA : Hid (NumAns g m e (.returned (.tuple #[.string ⟨#[]⟩, .bool false]))) := .inl ⟨HH.out.symm, rfl⟩
    go_wp2
    go_ret2
    exact ⟨HA.out, hB1⟩
  | true =>
    obtain ⟨n, hn, hF⟩ := (finB_iff m e).1 HH.out.symm
    have HN := hide (And.intro hn hF)
    clear hn hF
    go_wp2_with fail
    refine (rnum_any g m e w1 HN.out.1 HN.out.2).mono ?_
    rintro _ w2 ⟨⟨v, rfl, i, l, r, s, rfl, hR, hS⟩, hW2⟩
    have HR := hide (And.intro hR hS)
    obtain ⟨G, hG⟩ : ∃ G, G = (g && decide (n ≠ 0)) := ⟨_, rfl⟩
    rw [← hG]
    have HG := hide hG
    have hB2 : Below w.heap.size w w2 := hB1.trans (hW2.mono (by omega))
    have HT2 : Hid (Tab w2.heap.size w2) := (HT.out.on hB2).up hB2.size
    clear hR hS hW2 hB1 c0 c1 c2 hG
    go_wp2_with fail
    refine (tellNum_any G w2 HR.out.1 HR.out.2 HT2.out).mono ?_
    rintro e' w3 ⟨hA, hW3⟩
    obtain ⟨t, ht⟩ := hA.told (low_ten HN.out.2).1 (low_ten HN.out.2).2
    subst ht
    have HA : Hid (NumAns g m e (.returned (.tuple #[.string t, .bool true]))) := by
      refine .inr ⟨HH.out.symm, t, rfl, ?_⟩
      rw [show m.toNat = n by have := HN.out.1; omega, ← HG.out]
      exact hA
    have hB3 : Below w.heap.size w w3 := hB2.trans (hW3.mono hB2.size)
    clear hA hW3 hB2
    go_wp2
    go_ret2
    exact ⟨HA.out, hB3⟩

set_option maxHeartbeats 4000000 in
set_option maxRecDepth 100000 in
theorem lbNumT {n : Nat} (g : Bool) (m e : Int) (w : World) (hm : m = (n : Int)) (hf : FinR n e) :
    Calls Tryd.prog 25 #[.agg #[.bool g, .int .i64 m, .int .i64 e]] w fun e' w' => (∃ s : ByteArray, e' = .returned (.string s) ∧ TellsN (g && decide (n ≠ 0)) (vN n e / Nat.gcd (vN n e) (vD e)) (vD e / Nat.gcd (vN n e) (vD e)) (.returned (.tuple #[.string s, .bool true]))) ∧ Below w.heap.size w w' := by
  have A := RowAt.new w 26 #[.bool g, .int .i64 m, .int .i64 e]
  have hB : Below w.heap.size w (w.alloc (.cells #[.bool g, .int .i64 m, .int .i64 e] 26)) := (Below.refl _ _).alloc (Nat.le_refl _) _
  have HN := hide (And.intro hm hf)
  clear hm hf
  go_enter Tryd.func25, Tryd.ntmps25
  go_wp2_with fail
  refine (partsT g m e _ HN.out.1 HN.out.2).mono ?_
  rintro _ w1 ⟨⟨s, t, rfl, P, Q, hP, hQ, q0, hx, b0, d0⟩, hW1⟩
  have hs1 := hW1.size
  simp only [World.size_alloc] at hs1
  have A1 := RowAt.below A hW1 (by simp)
  have hB1 : Below w.heap.size w w1 := hB.trans (hW1.mono (by simp))
  have c0 : w1.cell? ⟨w.heap.size, 0, none⟩ = some (.bool g) := by rw [cell_of_row w1 _ _ _ _ _ A1]; rfl
  have z0 : s.size ≤ 600 := hP.size (Nat.lt_of_le_of_lt b0 (Nat.lt_trans (vN_lt HN.out.2) (two_lt 203 (by omega)))) (by omega)
  have y0 : t.size ≤ 600 := hQ.size (Nat.lt_of_le_of_lt d0 (Nat.lt_of_le_of_lt (vD_lt (by have := HN.out.2; unfold FinR at this; omega)) (two_lt 150 (by omega)))) (by omega)
  have HP := hide (And.intro hP (And.intro hQ (And.intro q0 hx)))
  clear A hB hW1 A1 hP hQ q0 hx b0 d0
  go_wp2_with fail
  refine (l2Make_any g s t w1 (by omega) (by omega) HP.out.1.1 HP.out.2.1.1 (by rw [HP.out.2.1.2]; exact HP.out.2.2.1)).mono ?_
  rintro e' w2 ⟨hA, hW2⟩
  have HA2 : Hid (TellsN (g && decide (n ≠ 0)) (vN n e / Nat.gcd (vN n e) (vD e)) (vD e / Nat.gcd (vN n e) (vD e)) e') := by
    unfold Hid
    rw [HP.out.1.2, HP.out.2.1.2] at hA
    obtain ⟨h1, h2⟩ := low_one HP.out.2.2.2 HP.out.2.2.1 (vD_ne e)
    rw [h1, h2] at hA
    have h3 : decide (P ≠ 0) = decide (n ≠ 0) := by
      refine decide_eq_decide.2 ?_
      have h4 : P = 0 ↔ n = 0 := by
        have hx := HP.out.2.2.2
        constructor
        · intro hp
          rw [hp, Nat.zero_mul] at hx
          rcases Nat.mul_eq_zero.1 hx.symm with h5 | h5
          · unfold vN at h5
            rcases Nat.mul_eq_zero.1 h5 with h6 | h6
            · exact h6
            · have := Nat.two_pow_pos e.toNat; omega
          · exact absurd h5 HP.out.2.2.1
        · intro hn
          rw [hn] at hx
          unfold vN at hx
          rw [Nat.zero_mul, Nat.zero_mul] at hx
          rcases Nat.mul_eq_zero.1 hx with h5 | h5
          · exact h5
          · exact absurd h5 (vD_ne e)
      omega
    rw [h3] at hA
    exact hA
  obtain ⟨u, hu⟩ := HA2.out.told (low_ten HN.out.2).1 (low_ten HN.out.2).2
  subst hu
  have hB2 : Below w.heap.size w w2 := hB1.trans (hW2.mono (by omega))
  clear hA hW2 hB1 c0
  go_wp2
  go_ret
  exact ⟨⟨u, rfl, HA2.out⟩, hB2⟩

set_option maxHeartbeats 4000000 in
set_option maxRecDepth 100000 in
theorem specNumOf_any (g : Bool) (m e : Int) (w : World) :
    Calls Tryd.prog 8 #[.agg #[.bool g, .int .i64 m, .int .i64 e]] w fun e' w' => NumAns g m e e' ∧ Below w.heap.size w w' := by
  have A := RowAt.new w 26 #[.bool g, .int .i64 m, .int .i64 e]
  have hB : Below w.heap.size w (w.alloc (.cells #[.bool g, .int .i64 m, .int .i64 e] 26)) := (Below.refl _ _).alloc (Nat.le_refl _) _
  have HF := hide (lbFinite_any g m e (w.alloc (.cells #[.bool g, .int .i64 m, .int .i64 e] 26)))
  obtain ⟨f, hf⟩ : ∃ f, f = finB m e := ⟨_, rfl⟩
  rw [← hf] at HF
  have HH := hide hf
  clear hf
  go_enter Tryd.func8, Tryd.ntmps8
  go_wp2_with fail
  refine HF.out.mono ?_
  rintro _ w1 ⟨rfl, hW1⟩
  have hs1 := hW1.size
  simp only [World.size_alloc] at hs1
  have A1 := RowAt.below A hW1 (by simp)
  have hB1 : Below w.heap.size w w1 := hB.trans (hW1.mono (by simp))
  have c0 : w1.cell? ⟨w.heap.size, 0, none⟩ = some (.bool g) := by rw [cell_of_row w1 _ _ _ _ _ A1]; rfl
  have c1 : w1.cell? ⟨w.heap.size, 1, none⟩ = some (.int .i64 m) := by rw [cell_of_row w1 _ _ _ _ _ A1]; rfl
  have c2 : w1.cell? ⟨w.heap.size, 2, none⟩ = some (.int .i64 e) := by rw [cell_of_row w1 _ _ _ _ _ A1]; rfl
  clear A hB hW1 HF A1
  cases f with
  | false =>
    have HA : Hid (NumAns g m e (.returned (.tuple #[.string ⟨#[]⟩, .bool false]))) := .inl ⟨HH.out.symm, rfl⟩
    go_wp2
    go_ret2
    exact ⟨HA.out, hB1⟩
  | true =>
    obtain ⟨n, hn, hF⟩ := (finB_iff m e).1 HH.out.symm
    have HN := hide (And.intro hn hF)
    clear hn hF
    go_wp2_with fail
    refine (lbNumT g m e w1 HN.out.1 HN.out.2).mono ?_
    rintro _ w2 ⟨⟨t, rfl, hA⟩, hW2⟩
    have HA : Hid (NumAns g m e (.returned (.tuple #[.string t, .bool true]))) := by
      refine .inr ⟨HH.out.symm, t, rfl, ?_⟩
      rw [show m.toNat = n by have := HN.out.1; omega]
      exact hA
    have hB2 : Below w.heap.size w w2 := hB1.trans (hW2.mono (by omega))
    clear hA hW2 hB1 c0 c1 c2
    go_wp2
    go_ret2
    exact ⟨HA.out, hB2⟩
end Go.Proofs.YteglkbgcgookhaaDoor

/-
  Rows of records that came in as arguments: what their reading says of the cells.
-/
namespace Go.Proofs.YteglkbgcgookhaaDoor
open Go.ChangeShapes Go.WideShapes Go.ChangeAt Go.RowKit
set_option linter.unusedVariables false

theorem laidOutR : laidOutB Tryd.prog = true := by kernel_rfl

theorem cell_block {w : World} {a : Addr} {v : Value} (h : w.cell? a = some v) : a.block < w.heap.size := by
  rcases Nat.lt_or_ge a.block w.heap.size with h1 | h1
  · exact h1
  · have h2 : w.heap[a.block]? = none := Array.getElem?_eq_none h1
    simp [World.cell?, h2] at h

/-- A slice of records, out of what each record's reading says. -/
theorem open_recs {H : Type} {enc : TypeId × Value → H} {W : World} {X : Type} [Inhabited X] (f : X → List Value) (c : Nat) (hc0 : 0 < c) (hc : ∀ x, (f x).length = c) (Q : X → Prop) {t e : TypeId} (ht : Tryd.prog.underlying t = some (.slice e)) (hce : Tryd.prog.cellsOf e = c)
    (each : ∀ (n : Nat) (cs : List Value) (x : DataW H × List MemPlace), cs.length = c → DataW.trod enc Tryd.prog W 0 (fun _ => true) true n e cs = some x → ∃ d : X, cs = f d ∧ Q d)
    {fuel : Nat} {cs : List Value} {x : DataW H × List MemPlace} (h : DataW.trod enc Tryd.prog W 0 (fun _ => true) true fuel t cs = some x) :
    ∃ (v : Value) (l : List X), cs = [v] ∧ SlR W v f c l ∧ (∀ i, i < l.length → Q (l.getD i default)) ∧ l.length ≤ maxLen := by
  rcases Deep.open_slice ht h with ⟨h1, _⟩ | ⟨a, len', cap', m, n, D, Pl, h1, hb, hl, hm, hmm, hx, hel⟩
  · exact ⟨.slice none 0 0, [], h1, .inl ⟨rfl, rfl⟩, fun i hi => by simp at hi, by unfold maxLen; simp⟩
  · have hlm : len' ≤ m := by rw [hmm]; simp; exact hl
    have each' : ∀ i, i < len' → ∃ d : X, W.cells? 0 (a.add (i * c)) c = some (f d) ∧ Q d := fun i hi => by
      obtain ⟨cs', g1, g2⟩ := hel i (by omega)
      rw [hce] at g1
      obtain ⟨_, hlen, _⟩ := World.cells?_some g1
      obtain ⟨d, rfl, ht⟩ := each _ _ _ hlen g2
      exact ⟨d, g1, ht⟩
    obtain ⟨g, hfl⟩ := Deep.choose_lt each'
    have hlen : ((List.range len').map g).length = len' := by simp
    have hget : ∀ i, i < len' → ((List.range len').map g).getD i default = g i := fun i hi => by simp [List.getD, hi]
    refine ⟨_, (List.range len').map g, h1, .inr ⟨a, cap', by rw [hlen], fun i j v hi hv => ?_, fun h0 => ?_⟩, fun i hi => ?_, by rw [hlen]; omega⟩
    · rw [hlen] at hi
      rw [hget i hi] at hv
      obtain ⟨_, _, hcc⟩ := World.cells?_some (hfl i hi).1
      have hj : j < c := by
        have := (List.getElem?_eq_some_iff.1 hv).1
        rw [hc] at this
        exact this
      rw [hcc j hj]
      exact hv
    · rw [hlen] at h0
      obtain ⟨_, _, hcc⟩ := World.cells?_some (hfl 0 h0).1
      have h2 := hcc 0 hc0
      have h3 : (f (g 0))[0]? = some ((f (g 0))[0]'(by rw [hc]; exact hc0)) := List.getElem?_eq_getElem _
      rw [h3] at h2
      have := cell_block h2
      simpa [Addr.add] using this
    · rw [hlen] at hi
      rw [hget i hi]
      exact (hfl i hi).2
theorem cells_strR : Tryd.prog.cellsOf 9 = 1 := by kernel_rfl
theorem cells_intR : Tryd.prog.cellsOf 3 = 1 := by kernel_rfl
theorem cells_boolR : Tryd.prog.cellsOf 4 = 1 := by kernel_rfl
end Go.Proofs.YteglkbgcgookhaaDoor

/-
  Reals in the laws: toReal, eqReal, and an argument that is a real.
-/
namespace Go.Proofs.YteglkbgcgookhaaDoor
open Go.ChangeShapes Go.WideShapes Go.ChangeAt Go.RowKit
set_option linter.unusedVariables false

theorem row_third {w : World} (o o' : Obj) (T : TypeId) (cs : Array Value) : RowAt ((w.alloc o).alloc o') (w.heap.size + 1) T cs → RowAt (((w.alloc o).alloc o').alloc (.cells cs T)) (w.heap.size + 1) T cs := fun h => h.old _

set_option maxHeartbeats 1000000 in
theorem toReal_any (g : Bool) (m e : Int) (w : World) :
    Calls Tryd.prog 9 #[.agg #[.bool g, .int .i64 m, .int .i64 e]] w fun e' w' => e' = .returned (.agg #[.bool g, .int .i64 m, .int .i64 e]) ∧ Below w.heap.size w w' := by
  have hz := zero_real.1
  go_enter Tryd.func9, Tryd.ntmps9
  go_wp2
  refine bodyPost_ret (res_real Tryd.results9 _ _ (w.heap.size + 1) _ _ _ rfl ?_) rfl ⟨rfl, (((Below.refl _ _).alloc (Nat.le_refl _) _).alloc (by simp) _).alloc (by simp; omega) _⟩
  have := RowAt.new (w.alloc (.cells #[.bool g, .int .i64 m, .int .i64 e] 23)) 26 #[.bool g, .int .i64 m, .int .i64 e]
  rw [World.size_alloc] at this
  exact this.old _

theorem cells_intL : Tryd.prog.cellsOf 3 = 1 := by kernel_rfl
theorem cells_boolL : Tryd.prog.cellsOf 4 = 1 := by kernel_rfl
set_option maxRecDepth 100000 in
/-- A real as an argument. -/
theorem open_real {H : Type} {enc : TypeId × Value → H} {W : World} {base : Nat} {v : Value} {d : DataW H} {ps : List MemPlace} (hval : Value.okWide Tryd.prog W .any base 23 v) (h : DataW.Trod enc Tryd.prog W 0 (fun _ => true) true 23 v d ps) :
    ∃ (g : Bool) (m e : Int), v = .agg #[.bool g, .int .i64 m, .int .i64 e] := by
  obtain ⟨cs, rfl, hcs⟩ := okWide_struct Tryd.underlying23 hval
  have hc3 : Tryd.prog.cellsOf 23 = 3 := by kernel_rfl
  rw [hc3] at hcs
  obtain ⟨a, b, c, rfl⟩ : ∃ a b c, cs = #[a, b, c] := by
    obtain ⟨l⟩ := cs
    match l, hcs with
    | [a, b, c], _ => exact ⟨a, b, c, rfl⟩
  obtain ⟨fuel, hf⟩ := h
  obtain ⟨y0, y1, y2, m, _, _, h0, h1, h2⟩ := Deep.trod_struct3 Tryd.underlying23 hf
  have g0 : DataW.trod enc Tryd.prog W 0 (fun _ => true) true m 4 (([a, b, c].drop 0).take (Tryd.prog.cellsOf 4)) = some y0 := h0
  have g1 : DataW.trod enc Tryd.prog W 0 (fun _ => true) true m 3 (([a, b, c].drop 1).take (Tryd.prog.cellsOf 3)) = some y1 := h1
  have g2 : DataW.trod enc Tryd.prog W 0 (fun _ => true) true m 3 (([a, b, c].drop 2).take (Tryd.prog.cellsOf 3)) = some y2 := h2
  rw [cells_boolL] at g0
  rw [cells_intL] at g1 g2
  obtain ⟨k0, e0, _⟩ := DataW.trod_bool Tryd.underlying4 g0
  obtain ⟨k1, e1, _, _⟩ := DataW.trod_int Tryd.underlying3 g1
  obtain ⟨k2, e2, _, _⟩ := DataW.trod_int Tryd.underlying3 g2
  simp at e0 e1 e2
  exact ⟨k0, k1, k2, by rw [e0, e1, e2]⟩
theorem size_lreal : (Tryd.prog.info? 23).map (·.size) = some 3 := by kernel_rfl
theorem run_loadLR {o : Oper} {a : Act} {w : World} (x : Operand) (ho : o.op = .load 23 x) (b : Nat) (hx : a.eval x = .pointer (some ⟨b, 0, none⟩)) (g : Bool) (m e : Int) (hN : RowAt w b 23 #[.bool g, .int .i64 m, .int .i64 e]) :
    (execOp a.eval o).run Tryd.prog w = .ok (.value (.agg #[.bool g, .int .i64 m, .int .i64 e])) w := by
  have h := run_loadVar_row (P := Tryd.prog) w b 23 23 #[.bool g, .int .i64 m, .int .i64 e] (0, 0) _ hN Tryd.underlying23 rfl size_lreal
  unfold execOp
  simp only [ho, hx, Instr.loadAt, Instr.sureAddr, Sem.run_bind, Sem.run_pure, Result.andThen_ok, h]
end Go.Proofs.YteglkbgcgookhaaDoor
