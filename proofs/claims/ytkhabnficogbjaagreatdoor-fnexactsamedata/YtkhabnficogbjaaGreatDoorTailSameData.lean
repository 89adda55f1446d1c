/-
  The texts ImplMake, SpecMake, SpecReadNum, ReadDigits, RdCore, ImplReadNum, Times, SpecMul, SpecPow, Symbol, ReadNumA, ReadNum, GoodNum, DatMath, Dat, DatText, DatMem, Seats, DatLaw, DatCopy, SpecGoodData, ImplGoodData, Same, DatArg, one behind the other, as one.
-/
import Derived.Test.YtkhabnficogbjaaGreatDoorTellNum
import Derived.Test.YtkhabnficogbjaaGreatDoorReads
import Derived.Test.YtkhabnficogbjaaGreatDoorImplAdd
import Derived.Test.YtkhabnficogbjaaGreatDoorAns
import Derived.Test.YtkhabnficogbjaaGreatDoorSpecGcd
import Derived.Test.YtkhabnficogbjaaGreatDoorReadMath
import Derived.Test.YtkhabnficogbjaaGreatDoorSpecParts
import Derived.Test.YtkhabnficogbjaaGreatDoorSpecOfRadix
import Derived.Deep.CutBlock
import Derived.Deep.DeepCutAuto
import Derived.Test.YtkhabnficogbjaaGreatDoorTimesSmall
import Derived.Test.YtkhabnficogbjaaGreatDoorRadix
import Derived.Test.YtkhabnficogbjaaGreatDoorPlus
import Derived.Deep.QuietTactic
import Derived.BigQuiet
import Derived.Test.YtkhabnficogbjaaGreatDoorMinus
import Derived.Test.YtkhabnficogbjaaGreatDoorSpecSub
import Derived.Deep.OwnRows
import Derived.Test.YtkhabnficogbjaaGreatDoorStr
import Derived.Test.YtkhabnficogbjaaGreatDoorShelfCut
import Derived.Lib.IndexLaws
import Derived.Test.YtkhabnficogbjaaGreatDoorCutNum
import Derived.Test.YtkhabnficogbjaaGreatDoorIsOne
import Derived.Test.YtkhabnficogbjaaGreatDoorWhole
import Derived.Test.YtkhabnficogbjaaGreatDoorHeldMid
import Derived.Test.YtkhabnficogbjaaGreatDoorHeldCall
import Derived.Test.YtkhabnficogbjaaGreatDoorSpecDiv
import Derived.Deep.Strs
import Derived.Carry
import Derived.WalkKit
import Derived.ProofKit
import Derived.OpenShut
import Derived.ShutString
import Derived.ChangeOld

/-
  What impl.MakeNum answers.
-/
namespace Go.Proofs.YtkhabnficogbjaaGreatDoor
open Go.RowKit
set_option linter.unusedVariables false

/-- What MakeNum should answer. -/
def makeOk (a b : ByteArray) : Bool := (goodB a.data.toList && goodB b.data.toList) && decide (dval b.data.toList ≠ 0)
def MakeAns (g : Bool) (a b : ByteArray) (e : Ending) : Prop :=
  (makeOk a b = true ∧ TellsN (g && decide (dval a.data.toList ≠ 0)) (dval a.data.toList / Nat.gcd (dval a.data.toList) (dval b.data.toList)) (dval b.data.toList / Nat.gcd (dval a.data.toList) (dval b.data.toList)) e) ∨ (makeOk a b = false ∧ Mute e)
theorem MakeAns.same {g : Bool} {a b : ByteArray} {e e' : Ending} (h : MakeAns g a b e) (h' : MakeAns g a b e') : ∃ (s : ByteArray) (o : Bool), e = .returned (.tuple #[.string s, .bool o]) ∧ e' = .returned (.tuple #[.string s, .bool o]) := by
  rcases h with ⟨g1, h⟩ | ⟨g1, h⟩ <;> rcases h' with ⟨g2, h'⟩ | ⟨g2, h'⟩
  · exact h.same h'
  · rw [g1] at g2; cases g2
  · rw [g1] at g2; cases g2
  · exact h.same h'

end Go.Proofs.YtkhabnficogbjaaGreatDoor

/-
  What spec.l2Make and spec.MakeNum answer.
-/
namespace Go.Proofs.YtkhabnficogbjaaGreatDoor
open Go.RowKit
set_option linter.unusedVariables false

theorem one_lt (k : Nat) (hk : k ≠ 0) : 1 < 10 ^ k := Nat.one_lt_pow hk (by decide)

theorem make_tells {g : Bool} {a b t u s : ByteArray} {G : Nat} (h0 : dval a.data.toList ≠ 0) (hC : canonB t.data.toList = true ∧ dval t.data.toList = dval a.data.toList / G ∧ canonB u.data.toList = true ∧ dval u.data.toList = dval b.data.toList / G) (h1 : t.size ≤ 600) (h2 : u.size ≤ 600)
    (h : s.data.toList = (if g then [45] else []) ++ t.data.toList ++ (if dval b.data.toList / G = 1 then [] else 47 :: u.data.toList)) : TellsN (g && decide (dval a.data.toList ≠ 0)) (dval a.data.toList / G) (dval b.data.toList / G) (.returned (.tuple #[.string s, .bool true])) := by
  rw [decide_eq_true h0, Bool.and_true]
  refine TellsN.yes ?_ ?_ ⟨t, u, InRad.dec hC.1 hC.2.1, InRad.dec hC.2.2.1 hC.2.2.2, h⟩
  · rw [← hC.2.1]; exact (canon_len_le hC.1 600 (by omega)).1 (by simpa using h1)
  · rw [← hC.2.2.2]; exact (canon_len_le hC.2.2.1 600 (by omega)).1 (by simpa using h2)

set_option maxHeartbeats 1000000 in
set_option maxRecDepth 100000 in
theorem l2Make_any (g : Bool) (a b : ByteArray) (w : World) (hsa : a.size ≤ 2000) (hsb : b.size ≤ 2000) (ha : canonB a.data.toList = true) (hb : canonB b.data.toList = true) (hb0 : dval b.data.toList ≠ 0) :
    Calls Tryz.prog 61 #[.bool g, .string a, .string b] w fun e w' => TellsN (g && decide (dval a.data.toList ≠ 0)) (dval a.data.toList / Nat.gcd (dval a.data.toList) (dval b.data.toList)) (dval b.data.toList / Nat.gcd (dval a.data.toList) (dval b.data.toList)) e ∧ Below w.heap.size w w' := by
  have HA := hideT ha
  have HB := hideT hb
  have HB0 := hideT hb0
  by_cases hz : a = ⟨#[48]⟩
  · have h0 : dval a.data.toList = 0 := by rw [hz]; decide
    have HN : Hid (TellsN (g && decide (dval a.data.toList ≠ 0)) (dval a.data.toList / Nat.gcd (dval a.data.toList) (dval b.data.toList)) (dval b.data.toList / Nat.gcd (dval a.data.toList) (dval b.data.toList)) (.returned (.tuple #[.string ⟨#[48]⟩, .bool true]))) := by
      unfold Hid
      rw [h0, Nat.gcd_zero_left, Nat.zero_div, Nat.div_self (Nat.pos_of_ne_zero hb0), decide_eq_false (by simp), Bool.and_false]
      refine TellsN.yes (Nat.lt_trans (by decide) (one_lt 600 (by decide))) (one_lt 600 (by decide)) ⟨⟨#[48]⟩, ⟨#[49]⟩, InRad.dec (by decide) (by decide), InRad.dec (by decide) (by decide), by simp⟩
    subst hz
    clear ha hb hb0 h0
    go_enter Tryz.func61, Tryz.ntmps61
    go_wp2
    go_ret2
    exact ⟨HN.out, Below.refl _ _⟩
  · have hz' : (a.toList == [48]) = false := str_ne (fun h => hz (WideShapes.bytes_inj h))
    have HT0 : Hid (dval a.data.toList ≠ 0) := fun e => hz (WideShapes.bytes_inj ((canon_zero HA.out).1 e))
    obtain ⟨G, hG⟩ : ∃ G, G = Nat.gcd (dval a.data.toList) (dval b.data.toList) := ⟨_, rfl⟩
    rw [← hG]
    have HG := hideT hG
    have HG0 : Hid (G ≠ 0) := by
      have := Nat.gcd_pos_of_pos_right (dval a.data.toList) (Nat.pos_of_ne_zero hb0)
      unfold Hid; omega
    clear hz ha hb hb0 hG
    go_enter Tryz.func61, Tryz.ntmps61
    go_wp2_with fail
    refine (l1Gcd_any a b w hsa hsb HA.out HB.out).mono ?_
    rintro e w1 ⟨c, rfl, hc, hv, hW⟩
    rw [← HG.out] at hv
    have HCC := hideT (And.intro hc hv)
    have hcs : c.size ≤ 2000 := by
      have hle : dval c.data.toList ≤ dval b.data.toList := by rw [hv, HG.out]; exact Nat.gcd_le_right _ (Nat.pos_of_ne_zero HB0.out)
      have := canon_le_size HB.out hc hle; omega
    clear hc hv
    by_cases hc1 : c.data.toList = [49]
    · have hc1' : (c.toList == [49]) = true := str_eq hc1
      have hG1 : G = 1 := by rw [← HCC.out.2]; exact (canon_one HCC.out.1).2 hc1
      clear hc1
      have HC : Hid (canonB a.data.toList = true ∧ dval a.data.toList = dval a.data.toList / G ∧ canonB b.data.toList = true ∧ dval b.data.toList = dval b.data.toList / G) := by
        unfold Hid; rw [hG1, Nat.div_one, Nat.div_one]; exact ⟨HA.out, rfl, HB.out, rfl⟩
      clear hG1
      by_cases hl1 : (600 : Int) < (a.size : Int)
      · have HN : Hid (TellsN (g && decide (dval a.data.toList ≠ 0)) (dval a.data.toList / G) (dval b.data.toList / G) (.returned (.tuple #[.string ⟨#[]⟩, .bool false]))) := TellsN.no (.inl (fun h => by
          rw [← HC.out.2.1] at h
          have := (canon_len_le HC.out.1 600 (by omega)).2 h
          simp at this; omega))
        go_wp2
        go_ret2
        exact ⟨HN.out, hW⟩
      · by_cases hl2 : (600 : Int) < (b.size : Int)
        · have HN : Hid (TellsN (g && decide (dval a.data.toList ≠ 0)) (dval a.data.toList / G) (dval b.data.toList / G) (.returned (.tuple #[.string ⟨#[]⟩, .bool false]))) := TellsN.no (.inr (fun h => by
            rw [← HC.out.2.2.2] at h
            have := (canon_len_le HC.out.2.2.1 600 (by omega)).2 h
            simp at this; omega))
          go_wp2
          go_ret2
          exact ⟨HN.out, hW⟩
        · have HY := fun (s : ByteArray) (h : s.data.toList = (if g then [45] else []) ++ a.data.toList ++ (if dval b.data.toList / G = 1 then [] else 47 :: b.data.toList)) => make_tells (s := s) (g := g) HT0.out HC.out (by omega) (by omega) h
          have HY' := hideT HY
          clear HY
          have hb1 : Hid (dval b.data.toList / G = 1 ↔ b.data.toList = [49]) := by unfold Hid; rw [← HC.out.2.2.2]; exact canon_one HC.out.2.2.1
          by_cases hu1 : b.data.toList = [49]
          · have hu1' : (b.toList == [49]) = true := str_eq hu1
            have HI : Hid (dval b.data.toList / G = 1) := hb1.out.2 hu1
            clear hu1
            cases g with
            | true =>
              go_wp2
              go_ret2
              exact ⟨HY'.out _ (by rw [if_pos HI.out]; simp [ByteArray.data_append]), hW⟩
            | false =>
              go_wp2
              go_ret2
              exact ⟨HY'.out _ (by rw [if_pos HI.out]; simp), hW⟩
          · have hu1' : (b.toList == [49]) = false := str_ne hu1
            have HI : Hid (¬ dval b.data.toList / G = 1) := fun e => hu1 (hb1.out.1 e)
            clear hu1
            cases g with
            | true =>
              go_wp2
              go_ret2
              exact ⟨HY'.out _ (by rw [if_neg HI.out]; simp [ByteArray.data_append]), hW⟩
            | false =>
              go_wp2
              go_ret2
              exact ⟨HY'.out _ (by rw [if_neg HI.out]; simp [ByteArray.data_append]), hW⟩
    · have hc1' : (c.toList == [49]) = false := str_ne hc1
      have hcz : Hid (dval c.data.toList ≠ 0) := by unfold Hid; rw [HCC.out.2]; exact HG0.out
      clear hc1
      go_wp2_with fail
      refine (l1Div_any a c w1 hsa hcs HA.out HCC.out.1 hcz.out).mono ?_
      rintro e w2 ⟨t, t', rfl, hc2, hv2, _, _, hW2⟩
      rw [HCC.out.2] at hv2
      have HC2 := hideT (And.intro hc2 hv2)
      have hts : t.size ≤ 2000 := by have := canon_le_size HA.out hc2 (by rw [hv2]; exact Nat.div_le_self _ _); omega
      have hW2' : Below w.heap.size w w2 := hW.trans (hW2.mono hW.size)
      clear hc2 hv2 hW hW2
      go_wp2_with fail
      refine (l1Div_any b c w2 hsb hcs HB.out HCC.out.1 hcz.out).mono ?_
      rintro e w3 ⟨u, u', rfl, hc3, hv3, _, _, hW3⟩
      rw [HCC.out.2] at hv3
      have hus : u.size ≤ 2000 := by have := canon_le_size HB.out hc3 (by rw [hv3]; exact Nat.div_le_self _ _); omega
      have HC : Hid (canonB t.data.toList = true ∧ dval t.data.toList = dval a.data.toList / G ∧ canonB u.data.toList = true ∧ dval u.data.toList = dval b.data.toList / G) := ⟨HC2.out.1, HC2.out.2, hc3, hv3⟩
      have hW : Below w.heap.size w w3 := hW2'.trans (hW3.mono hW2'.size)
      clear hc3 hv3 hW2' hW3
      by_cases hl1 : (600 : Int) < (t.size : Int)
      · have HN : Hid (TellsN (g && decide (dval a.data.toList ≠ 0)) (dval a.data.toList / G) (dval b.data.toList / G) (.returned (.tuple #[.string ⟨#[]⟩, .bool false]))) := TellsN.no (.inl (fun h => by
          rw [← HC.out.2.1] at h
          have := (canon_len_le HC.out.1 600 (by omega)).2 h
          simp at this; omega))
        go_wp2
        go_ret2
        exact ⟨HN.out, hW⟩
      · by_cases hl2 : (600 : Int) < (u.size : Int)
        · have HN : Hid (TellsN (g && decide (dval a.data.toList ≠ 0)) (dval a.data.toList / G) (dval b.data.toList / G) (.returned (.tuple #[.string ⟨#[]⟩, .bool false]))) := TellsN.no (.inr (fun h => by
            rw [← HC.out.2.2.2] at h
            have := (canon_len_le HC.out.2.2.1 600 (by omega)).2 h
            simp at this; omega))
          go_wp2
          go_ret2
          exact ⟨HN.out, hW⟩
        · have HY := fun (s : ByteArray) (h : s.data.toList = (if g then [45] else []) ++ t.data.toList ++ (if dval b.data.toList / G = 1 then [] else 47 :: u.data.toList)) => make_tells (s := s) (g := g) HT0.out HC.out (by omega) (by omega) h
          have HY' := hideT HY
          clear HY
          have hb1 : Hid (dval b.data.toList / G = 1 ↔ u.data.toList = [49]) := by unfold Hid; rw [← HC.out.2.2.2]; exact canon_one HC.out.2.2.1
          by_cases hu1 : u.data.toList = [49]
          · have hu1' : (u.toList == [49]) = true := str_eq hu1
            have HI : Hid (dval b.data.toList / G = 1) := hb1.out.2 hu1
            clear hu1
            cases g with
            | true =>
              go_wp2
              go_ret2
              exact ⟨HY'.out _ (by rw [if_pos HI.out]; simp [ByteArray.data_append]), hW⟩
            | false =>
              go_wp2
              go_ret2
              exact ⟨HY'.out _ (by rw [if_pos HI.out]; simp), hW⟩
          · have hu1' : (u.toList == [49]) = false := str_ne hu1
            have HI : Hid (¬ dval b.data.toList / G = 1) := fun e => hu1 (hb1.out.1 e)
            clear hu1
            cases g with
            | true =>
              go_wp2
              go_ret2
              exact ⟨HY'.out _ (by rw [if_neg HI.out]; simp [ByteArray.data_append]), hW⟩
            | false =>
              go_wp2
              go_ret2
              exact ⟨HY'.out _ (by rw [if_neg HI.out]; simp [ByteArray.data_append]), hW⟩

end Go.Proofs.YtkhabnficogbjaaGreatDoor

/-
  What spec.l2Cut, spec.l2Read and spec.ReadNum answer.
-/
namespace Go.Proofs.YtkhabnficogbjaaGreatDoor
open Go.RowKit
set_option linter.unusedVariables false

set_option maxHeartbeats 1000000 in
set_option maxRecDepth 100000 in
theorem l2Cut_any (s : ByteArray) (w : World) (hs : s.size ≤ maxLen) :
    Calls Tryz.prog 59 #[.string s, .int .u8 47] w fun e w' => (∃ t u : ByteArray, e = .returned (.tuple #[.string t, .string u, .bool (cut47 s.data.toList).2.2]) ∧ t.data.toList = (cut47 s.data.toList).1 ∧ u.data.toList = (cut47 s.data.toList).2.1) ∧ Below w.heap.size w w' := by
  unfold maxLen at hs
  have hs' : (s.size : Int) ≤ 9223372036854775807 := by omega
  go_enter Tryz.func59, Tryz.ntmps59
  go_wp2_with fail
  go_loopg [7] s.size (fun g i wr => ∃ k : Nat, g = s.size - k ∧ k ≤ s.size ∧ i = .int .i64 (k : Int) ∧ Hid (∀ j, j < k → s.data.toList[j]? ≠ some 47) ∧ wr = w)
  case atStart => exact ⟨0, rfl, Nat.zero_le _, rfl, fun j hj => by omega, rfl⟩
  case round =>
    obtain ⟨k, hg, hk, rfl, HK, rfl⟩ := hrel
    by_cases hlt : k < s.size
    · have hlt' : (k : Int) < (s.size : Int) := by omega
      by_cases h47 : s[k] = 47
      · have h47' : (s[k].toNat : Int) = 47 := by rw [h47]; rfl
        have hc := cut47_some s.data.toList k (by rw [getN k hlt, h47]) HK.out
        obtain ⟨k1, hk1⟩ : ∃ k1, k1 = k + 1 := ⟨_, rfl⟩
        have hwk : IntKind.i64.wrap ((k : Int) + 1) = (k1 : Int) := by rw [IntKind.wrap_i64]; omega
        have hk1' : (k1 : Int) ≤ (s.size : Int) := by omega
        have hk' : (k : Int) ≤ (s.size : Int) := by omega
        have HC : Hid ((s.extract 0 k).data.toList = (cut47 s.data.toList).1 ∧ (s.extract k1 s.size).data.toList = (cut47 s.data.toList).2.1 ∧ (cut47 s.data.toList).2.2 = true) := by
          unfold Hid
          rw [hc, ext_head, ext_tail, hk1]; exact ⟨rfl, rfl, rfl⟩
        clear hc hk1 h47
        go_wp2_with fail
        refine held_begin0 (by kernel_rfl) ?_
        refine held_val0 0 (some 19) rfl rfl (by kernel_rfl) (by kernel_rfl) (by kernel_rfl) rfl (.string s) (fun _ => rfl) ?_
        simp only [Act.put, List.setIfInBounds_toArray, List.set_cons_zero, List.set_cons_succ]
        refine held_val0 1 (some 20) rfl rfl (by kernel_rfl) (by kernel_rfl) (by kernel_rfl) rfl (.int .i64 (k : Int)) (fun _ => rfl) ?_
        simp only [Act.put, List.setIfInBounds_toArray, List.set_cons_zero, List.set_cons_succ]
        refine held_val0 2 (some 21) rfl rfl (by kernel_rfl) (by kernel_rfl) (by kernel_rfl) rfl (.string (s.extract 0 k)) (fun _ => by go_simp) ?_
        simp only [Act.put, List.setIfInBounds_toArray, List.set_cons_zero, List.set_cons_succ]
        refine held_val0 3 (some 22) rfl rfl (by kernel_rfl) (by kernel_rfl) (by kernel_rfl) rfl (.string s) (fun _ => rfl) ?_
        simp only [Act.put, List.setIfInBounds_toArray, List.set_cons_zero, List.set_cons_succ]
        refine held_val0 4 (some 23) rfl rfl (by kernel_rfl) (by kernel_rfl) (by kernel_rfl) rfl (.int .i64 (k : Int)) (fun _ => rfl) ?_
        simp only [Act.put, List.setIfInBounds_toArray, List.set_cons_zero, List.set_cons_succ]
        refine held_val0 5 (some 24) rfl rfl (by kernel_rfl) (by kernel_rfl) (by kernel_rfl) rfl (.int .i64 (k1 : Int)) (fun _ => by go_simp) ?_
        simp only [Act.put, List.setIfInBounds_toArray, List.set_cons_zero, List.set_cons_succ]
        refine held_val0 6 (some 25) rfl rfl (by kernel_rfl) (by kernel_rfl) (by kernel_rfl) rfl (.string (s.extract k1 s.size)) (fun _ => by go_simp) ?_
        simp only [Act.put, List.setIfInBounds_toArray, List.set_cons_zero, List.set_cons_succ]
        refine held_assign0 7 (some 4) (by kernel_rfl) rfl rfl _ rfl rfl (.string (s.extract 0 k)) rfl ?_
        simp only [Act.put, List.setIfInBounds_toArray, List.set_cons_zero, List.set_cons_succ]
        refine held_assign0 8 (some 5) (by kernel_rfl) rfl rfl _ rfl rfl (.string (s.extract k1 s.size)) rfl ?_
        simp only [Act.put, List.setIfInBounds_toArray, List.set_cons_zero, List.set_cons_succ]
        refine held_assign0 9 (some 6) (by kernel_rfl) rfl rfl _ rfl rfl (.bool true) rfl ?_
        simp only [Act.put, List.setIfInBounds_toArray, List.set_cons_zero, List.set_cons_succ]
        refine wpAnyH_done (by kernel_rfl) ?_ _
        refine NoPanic.normal ?_
        go_wp2
        (try simp only [Exit.inBlock, Exit.then]); refine bodyPost_ret (results_tmp3 rfl _ _ _) rfl ?_
        exact ⟨⟨_, _, by rw [HC.out.2.2]; rfl, HC.out.1, HC.out.2.1⟩, (Below.refl _ _).drew⟩
      · have h47' : ((s[k].toNat : Int) == 47) = false := by
          rw [beq_eq_false_iff_ne]
          intro e; apply h47; exact UInt8.toNat_inj.1 (by simpa using (by omega : s[k].toNat = 47))
        have HK2 : Hid (∀ j, j < k + 1 → s.data.toList[j]? ≠ some 47) := by
          intro j hj
          by_cases e : j = k
          · subst e; rw [getN j hlt]; intro h; exact h47 (by injection h)
          · exact HK.out j (by omega)
        clear h47
        go_wp2
        go_roundg (s.size - (k + 1))
        case measure => omega
        case rel => exact ⟨k + 1, rfl, by omega, by go_num, HK2, rfl⟩
    · have hc := cut47_none s.data.toList (fun j => by
        by_cases hj : j < s.size
        · exact HK.out j (by omega)
        · rw [List.getElem?_eq_none (by simp; omega)]; simp)
      have HA : Hid (s.data.toList = (cut47 s.data.toList).1 ∧ (⟨#[]⟩ : ByteArray).data.toList = (cut47 s.data.toList).2.1 ∧ (cut47 s.data.toList).2.2 = false) := by
        unfold Hid; rw [hc]; exact ⟨rfl, rfl, rfl⟩
      clear hc
      have hlt' : ¬ (k : Int) < (s.size : Int) := by omega
      go_wp2
      go_ret3
      exact ⟨⟨_, _, by rw [HA.out.2.2]; rfl, HA.out.1, HA.out.2.1⟩, Below.refl _ _⟩

/-- What ReadNum should answer. -/
def ReadAns (s : ByteArray) (e : Ending) : Prop :=
  (rdOkN s.data.toList = true ∧ TellsN (rdNeg s.data.toList && decide (rval (rdRad s.data.toList) (rdTop s.data.toList) ≠ 0)) (rval (rdRad s.data.toList) (rdTop s.data.toList) / Nat.gcd (rval (rdRad s.data.toList) (rdTop s.data.toList)) (rval (rdRad s.data.toList) (rdBot s.data.toList))) (rval (rdRad s.data.toList) (rdBot s.data.toList) / Nat.gcd (rval (rdRad s.data.toList) (rdTop s.data.toList)) (rval (rdRad s.data.toList) (rdBot s.data.toList))) e) ∨ (rdOkN s.data.toList = false ∧ Mute e)
theorem ReadAns.same {s : ByteArray} {e e' : Ending} (h : ReadAns s e) (h' : ReadAns s e') : ∃ (t : ByteArray) (o : Bool), e = .returned (.tuple #[.string t, .bool o]) ∧ e' = .returned (.tuple #[.string t, .bool o]) := by
  rcases h with ⟨g1, h⟩ | ⟨g1, h⟩ <;> rcases h' with ⟨g2, h'⟩ | ⟨g2, h'⟩
  · exact h.same h'
  · rw [g1] at g2; cases g2
  · rw [g1] at g2; cases g2
  · exact h.same h'

theorem byte_ne {c : UInt8} {n : Nat} (hn : n < 256) (h : c ≠ UInt8.ofNat n) : ((c.toNat : Int) == (n : Int)) = false := by
  rw [beq_eq_false_iff_ne]
  intro e
  apply h
  have : c.toNat = n := by omega
  rw [← this]; simp
theorem radN_of {s : ByteArray} (h : 1 < s.size) : radN s.data.toList = if s[0] = 35 then (letR s[1], s.data.toList.drop 2) else (10, s.data.toList) := by
  have h0 := getN 0 (t := s) (by omega)
  have h1 := getN 1 (t := s) (by omega)
  generalize s.data.toList = l at h0 h1 ⊢
  match l, h0, h1 with
  | a :: c :: t, h0, h1 =>
    simp at h0 h1
    subst h0 h1
    rfl
theorem sigN_of {s : ByteArray} (h : 0 < s.size) : sigN s.data.toList = if s[0] = 45 then (true, s.data.toList.drop 1) else if s[0] = 43 then (false, s.data.toList.drop 1) else (false, s.data.toList) := by
  have h0 := getN 0 (t := s) (by omega)
  generalize s.data.toList = l at h0 ⊢
  match l, h0 with
  | a :: t, h0 =>
    simp at h0
    subst h0
    rfl
theorem sigN_none {s : ByteArray} (h : ¬ 0 < s.size) : sigN s.data.toList = (false, s.data.toList) := by
  have h1 : s.data.toList.length = s.size := by simp
  have : s.data.toList = [] := List.length_eq_zero_iff.1 (by omega)
  rw [this]; rfl

theorem rdDig_eq {b : Nat} {o : ByteArray} (h : o.size ≤ 600) : rdDig b o.data.toList = (decide (0 < o.size) && rdigs b o.data.toList) := by
  have hl : o.data.toList.length = o.size := by simp
  unfold rdDig
  rw [hl, decide_eq_true h, Bool.and_true]
theorem rdDig_long {b : Nat} {o : ByteArray} (h : ¬ o.size ≤ 600) : rdDig b o.data.toList = false := by
  have hl : o.data.toList.length = o.size := by simp
  unfold rdDig
  rw [hl, decide_eq_false h]; simp
theorem rdDig_digs {b : Nat} {l : List UInt8} (h : rdDig b l = true) : rdigs b l = true := by
  unfold rdDig at h
  simp only [Bool.and_eq_true] at h
  exact h.2
theorem rad_pow {b k : Nat} (hb : b ≤ 16) : b ^ k ≤ 10 ^ (2 * k) := by
  rw [Nat.pow_mul]
  exact Nat.pow_le_pow_left (by omega) k
theorem rad_sizeK (K : Nat) (hK : 1 ≤ K) {b : Nat} {o t : ByteArray} (hb : b ≤ 16) (ho : o.size ≤ K) (hd : rdigs b o.data.toList = true) (hc : canonB t.data.toList = true) (hv : dval t.data.toList = rval b o.data.toList) : t.size ≤ 2 * K := by
  have hl : o.data.toList.length = o.size := by simp
  have h1 := rval_lt b o.data.toList hd
  rw [hl, ← hv] at h1
  have h2 : 10 ^ (2 * o.size) ≤ 10 ^ (2 * K) := Nat.pow_le_pow_right (by decide) (by omega)
  have h3 := Nat.lt_of_lt_of_le h1 (Nat.le_trans (rad_pow hb) h2)
  have h4 := (canon_len_le hc (2 * K) (by omega)).2 h3
  simpa using h4
theorem rad_size {b : Nat} {o t : ByteArray} (hb : b ≤ 16) (ho : o.size ≤ 600) (hd : rdigs b o.data.toList = true) (hc : canonB t.data.toList = true) (hv : dval t.data.toList = rval b o.data.toList) : t.size ≤ 1200 := rad_sizeK 600 (by decide) hb ho hd hc hv
theorem TellsN.form3 {g : Bool} {n m : Nat} {e : Ending} (h : TellsN g n m e) : ∃ (s : ByteArray) (o : Bool), e = .returned (.tuple #[.string s, .bool o]) := by
  obtain ⟨s, rfl, _, _⟩ := h
  exact ⟨s, _, rfl⟩

/-- Whether a radix's sign stands at the front. -/
def hsh (s : ByteArray) : Bool := decide (1 < s.size) && s.data.toList.head? == some 35
theorem hsh_of {s : ByteArray} (h : 1 < s.size) : hsh s = (s[0] == 35) := by
  unfold hsh
  rw [decide_eq_true h, List.head?_eq_getElem?, getN 0 (by omega)]; rfl
theorem hsh_no {s : ByteArray} (h : hsh s = false) : radN s.data.toList = (10, s.data.toList) := by
  by_cases h1 : 1 < s.size
  · rw [hsh_of h1] at h
    rw [radN_of h1, if_neg (by simpa using h)]
  · exact radN_short (by have : s.data.toList.length = s.size := by simp
                         omega)
theorem hsh_yes {s : ByteArray} (h : hsh s = true) : 1 < s.size ∧ radN s.data.toList = (letR (s.data.toList.getD 1 0), s.data.toList.drop 2) := by
  have h1 : 1 < s.size := by unfold hsh at h; simp at h; omega
  rw [hsh_of h1] at h
  refine ⟨h1, ?_⟩
  rw [radN_of h1, if_pos (by simpa using h)]
  simp [List.getD, getN 1 h1]

/-- Whether a sign stands at the front. -/
def sgd (s : ByteArray) : Bool := decide (0 < s.size) && (s.data.toList.head? == some 43 || s.data.toList.head? == some 45)
theorem sgd_of {s : ByteArray} (h : 0 < s.size) : sgd s = (s[0] == 43 || s[0] == 45) := by
  unfold sgd
  rw [decide_eq_true h, List.head?_eq_getElem?, getN 0 h]; rfl
theorem sgd_no {s : ByteArray} (h : sgd s = false) : sigN s.data.toList = (false, s.data.toList) := by
  by_cases h1 : 0 < s.size
  · rw [sgd_of h1] at h
    simp at h
    rw [sigN_of h1, if_neg h.2, if_neg h.1]
  · exact sigN_none h1
theorem sgd_yes {s : ByteArray} (h : sgd s = true) : ∃ h0 : 0 < s.size, sigN s.data.toList = (s[0] == 45, s.data.toList.drop 1) := by
  have h1 : 0 < s.size := by
    by_cases h0 : 0 < s.size
    · exact h0
    · unfold sgd at h; rw [decide_eq_false h0] at h; cases h
  refine ⟨h1, ?_⟩
  rw [sgd_of h1] at h
  rw [sigN_of h1]
  by_cases h45 : s[0] = 45
  · rw [if_pos h45, h45]; rfl
  · rw [if_neg h45]
    have h43 : s[0] = 43 := by simp [h45] at h; exact h
    rw [if_pos h43, h43]; rfl

set_option maxHeartbeats 1000000 in
set_option maxRecDepth 100000 in
theorem l2Read_any (s : ByteArray) (w : World) (hs : s.size ≤ maxLen) :
    Calls Tryz.prog 43 #[.string s] w fun e w' => ReadAns s e ∧ Below w.heap.size w w' := by
  unfold maxLen at hs
  go_enter Tryz.func43, Tryz.ntmps43
  go_upto_region 2 with fail
  go_cut [20] (fun x wx => x = .bool (hsh s) ∧ wx = w)
  case first =>
    by_cases h1 : 1 < s.size
    · have h1' : (1 : Int) < (s.size : Int) := by omega
      have h0 : 0 < s.size := by omega
      cases h35 : (s[0] == 35) with
      | true =>
        have HH : Hid (hsh s = true) := by unfold Hid; rw [hsh_of h1]; exact h35
        have h35' : s[0].toNat = 35 := by rw [eq_of_beq h35]; rfl
        clear h35
        go_wp2
        go_meet
        case rel => exact ⟨by rw [HH.out], rfl⟩
      | false =>
        have HH : Hid (hsh s = false) := by unfold Hid; rw [hsh_of h1]; exact h35
        have h35' : ((s[0].toNat : Int) == 35) = false := byte_ne (n := 35) (by decide) (by simpa using h35)
        clear h35
        go_wp2
        go_meet
        case rel => exact ⟨by rw [HH.out], rfl⟩
    · have HH : Hid (hsh s = false) := by unfold Hid hsh; rw [decide_eq_false h1]; rfl
      have h1' : ¬ (1 : Int) < (s.size : Int) := by omega
      go_wp2
      go_meet
      case rel => exact ⟨by rw [HH.out], rfl⟩
  case rest =>
    obtain ⟨rfl, rfl⟩ := hcut
    obtain ⟨hh, hhd⟩ : ∃ hh, hh = hsh s := ⟨_, rfl⟩
    rw [← hhd]
    have HH := hideT' hhd
    clear hhd
    go_upto_if 20 with fail
    go_cut [0, 4] (fun x y wx => ∃ (t : ByteArray) (b : Nat) (r : Int), x = .string t ∧ y = .int .i64 r ∧ r = (b : Int) ∧ 2 ≤ r ∧ r ≤ 16 ∧ Hid (radN s.data.toList = (b, t.data.toList)) ∧ t.size ≤ s.size ∧ wx = wc)
    case first =>
      cases hh with
      | true =>
        obtain ⟨h1, hr⟩ := hsh_yes HH.out.symm
        have h1' : (1 : Int) < (s.size : Int) := by omega
        have h2' : (2 : Int) ≤ (s.size : Int) := by omega
        have HR : Hid (radN s.data.toList = (letR s[1], s.data.toList.drop 2)) := by
          unfold Hid; rw [hr]; simp [List.getD, getN 1 h1]
        clear hr
        by_cases h120 : s[1] = 120
        · have hl : letR s[1] = 16 := by rw [h120]; rfl
          have hb : (s[1].toNat : Int) = 120 := by rw [h120]; rfl
          have HX : Hid (radN s.data.toList = (16, (s.extract 2 s.size).data.toList)) := by unfold Hid; rw [HR.out, hl, ext_tail]
          clear h120 hl
          go_wp2
          go_meet
          case rel => exact ⟨s.extract 2 s.size, 16, 16, rfl, rfl, rfl, by omega, by omega, HX, by simp, rfl⟩
        · have n120 : ((s[1].toNat : Int) == 120) = false := byte_ne (n := 120) (by decide) h120
          by_cases h111 : s[1] = 111
          · have hl : letR s[1] = 8 := by rw [h111]; rfl
            have hb : (s[1].toNat : Int) = 111 := by rw [h111]; rfl
            have HX : Hid (radN s.data.toList = (8, (s.extract 2 s.size).data.toList)) := by unfold Hid; rw [HR.out, hl, ext_tail]
            clear h111 hl
            go_wp2
            go_meet
            case rel => exact ⟨s.extract 2 s.size, 8, 8, rfl, rfl, rfl, by omega, by omega, HX, by simp, rfl⟩
          · have n111 : ((s[1].toNat : Int) == 111) = false := byte_ne (n := 111) (by decide) h111
            by_cases h98 : s[1] = 98
            · have hl : letR s[1] = 2 := by rw [h98]; rfl
              have hb : (s[1].toNat : Int) = 98 := by rw [h98]; rfl
              have HX : Hid (radN s.data.toList = (2, (s.extract 2 s.size).data.toList)) := by unfold Hid; rw [HR.out, hl, ext_tail]
              clear h98 hl
              go_wp2
              go_meet
              case rel => exact ⟨s.extract 2 s.size, 2, 2, rfl, rfl, rfl, by omega, by omega, HX, by simp, rfl⟩
            · have n98 : ((s[1].toNat : Int) == 98) = false := byte_ne (n := 98) (by decide) h98
              by_cases h100 : s[1] = 100
              · have hl : letR s[1] = 10 := by rw [h100]; rfl
                have hb : (s[1].toNat : Int) = 100 := by rw [h100]; rfl
                have HX : Hid (radN s.data.toList = (10, (s.extract 2 s.size).data.toList)) := by unfold Hid; rw [HR.out, hl, ext_tail]
                clear h100 hl
                go_wp2
                go_meet
                case rel => exact ⟨s.extract 2 s.size, 10, 10, rfl, rfl, rfl, by omega, by omega, HX, by simp, rfl⟩
              · have n100 : ((s[1].toNat : Int) == 100) = false := byte_ne (n := 100) (by decide) h100
                have HN : Hid (rdOkN s.data.toList = false) := by
                  have h0 : rdRad s.data.toList = 0 := by unfold rdRad; rw [HR.out]; show letR s[1] = 0; unfold letR; rw [if_neg h120, if_neg h111, if_neg h98, if_neg h100]
                  unfold Hid rdOkN; rw [h0]; simp
                clear h120 h111 h98 h100
                go_wp2
                (try simp only [Exit.inBlock, Exit.then]); refine bodyPost_ret (results_tmp2 rfl _ _ _) rfl ?_
                exact ⟨.inr ⟨HN.out, rfl⟩, Below.refl _ _⟩
      | false =>
        have HX := hideT' (hsh_no HH.out.symm)
        go_wp2
        go_meet
        case rel => exact ⟨s, 10, 10, rfl, rfl, rfl, by omega, by omega, HX, Nat.le_refl _, rfl⟩
    case rest =>
      obtain ⟨t, b, r, rfl, rfl, hrb, hr0, hr1, HR, hts, rfl⟩ := hcut
      have HRB := hideT' hrb
      clear hrb HH hh
      go_upto_region 14 with fail
      go_cut [45] (fun x wx => x = .bool (sgd t) ∧ wx = wc)
      case first =>
        by_cases h0 : 0 < t.size
        · have h0' : (0 : Int) < (t.size : Int) := by omega
          by_cases h43 : t[0] = 43
          · have hb : (t[0].toNat : Int) = 43 := by rw [h43]; rfl
            have HX : Hid (sgd t = true) := by unfold Hid; rw [sgd_of h0, h43]; rfl
            clear h43
            go_wp2
            go_meet
            case rel => exact ⟨by rw [HX.out], rfl⟩
          · have n43 : ((t[0].toNat : Int) == 43) = false := byte_ne (n := 43) (by decide) h43
            by_cases h45 : t[0] = 45
            · have hb : (t[0].toNat : Int) = 45 := by rw [h45]; rfl
              have HX : Hid (sgd t = true) := by unfold Hid; rw [sgd_of h0, h45]; rfl
              clear h43 h45 n43
              go_wp2
              go_meet
              case rel => exact ⟨by rw [HX.out], rfl⟩
            · have n45 : ((t[0].toNat : Int) == 45) = false := byte_ne (n := 45) (by decide) h45
              have HX : Hid (sgd t = false) := by unfold Hid; rw [sgd_of h0]; simp [h43, h45]
              clear h43 h45
              go_wp2
              go_meet
              case rel => exact ⟨by rw [HX.out], rfl⟩
        · have h0' : ¬ (0 : Int) < (t.size : Int) := by omega
          have HX : Hid (sgd t = false) := by unfold Hid sgd; rw [decide_eq_false h0]; rfl
          go_wp2
          go_meet
          case rel => exact ⟨by rw [HX.out], rfl⟩
      case rest =>
        obtain ⟨rfl, rfl⟩ := hcut
        obtain ⟨hh, hhd⟩ : ∃ hh, hh = sgd t := ⟨_, rfl⟩
        rw [← hhd]
        have HH := hideT' hhd
        clear hhd
        go_upto_if 45 with fail
        go_cut [0, 5] (fun x y wx => ∃ (u : ByteArray) (g : Bool), x = .string u ∧ y = .bool g ∧ Hid (sigN t.data.toList = (g, u.data.toList)) ∧ u.size ≤ t.size ∧ wx = wc)
        case first =>
          cases hh with
          | true =>
            obtain ⟨h0, hr⟩ := sgd_yes HH.out.symm
            have h0' : (0 : Int) < (t.size : Int) := by omega
            have h1' : (1 : Int) ≤ (t.size : Int) := by omega
            cases h45 : (t[0] == 45) with
            | true =>
              have hb : (t[0].toNat : Int) = 45 := by rw [eq_of_beq h45]; rfl
              have HX : Hid (sigN t.data.toList = (true, (t.extract 1 t.size).data.toList)) := by unfold Hid; rw [hr, h45, ext_tail]
              clear hr h45
              go_wp2
              go_meet
              case rel => exact ⟨t.extract 1 t.size, true, rfl, rfl, HX, by simp, rfl⟩
            | false =>
              have hb : ((t[0].toNat : Int) == 45) = false := byte_ne (n := 45) (by decide) (by simpa using h45)
              have HX : Hid (sigN t.data.toList = (false, (t.extract 1 t.size).data.toList)) := by unfold Hid; rw [hr, h45, ext_tail]
              clear hr h45
              go_wp2
              go_meet
              case rel => exact ⟨t.extract 1 t.size, false, rfl, rfl, HX, by simp, rfl⟩
          | false =>
            have HX := hideT' (sgd_no HH.out.symm)
            go_wp2
            go_meet
            case rel => exact ⟨t, false, rfl, rfl, HX, Nat.le_refl _, rfl⟩
        case rest =>
          obtain ⟨u, g, rfl, rfl, HS, hus, rfl⟩ := hcut
          clear HH hh
          go_wp2_with fail
          refine (l2Cut_any u _ (by unfold maxLen; omega)).mono ?_
          rintro e w2 ⟨⟨o, v, rfl, ho, hv⟩, hW2⟩
          obtain ⟨tb, htb⟩ : ∃ tb, tb = (cut47 u.data.toList).2.2 := ⟨_, rfl⟩
          rw [← htb]
          have e1 : (radN s.data.toList).1 = b := by rw [HR.out]
          have e2 : (radN s.data.toList).2 = t.data.toList := by rw [HR.out]
          have HO : Hid (o.data.toList = rdTop s.data.toList ∧ rdRad s.data.toList = b ∧ rdNeg s.data.toList = g) := by
            refine ⟨?_, e1, ?_⟩
            · unfold rdTop; rw [e2, HS.out, ho]
            · unfold rdNeg; rw [e2, HS.out]
          have HV : Hid (rdBot s.data.toList = if tb then v.data.toList else [49]) := by
            unfold Hid rdBot; rw [e2, HS.out, ← htb, hv]
          clear e1 e2
          clear ho hv htb
          go_upto_if 58 with fail
          go_cut [7] (fun x wx => ∃ z : ByteArray, x = .string z ∧ Hid (z.data.toList = rdBot s.data.toList) ∧ wx = w2)
          case first =>
            cases tb with
            | true =>
              have HX : Hid (v.data.toList = rdBot s.data.toList) := by unfold Hid; rw [HV.out]; rfl
              go_wp2
              go_meet
              case rel => exact ⟨v, rfl, HX, rfl⟩
            | false =>
              have HX : Hid ((⟨#[49]⟩ : ByteArray).data.toList = rdBot s.data.toList) := by unfold Hid; rw [HV.out]; rfl
              go_wp2
              go_meet
              case rel => exact ⟨⟨#[49]⟩, rfl, HX, rfl⟩
          case rest =>
            obtain ⟨z, rfl, HZ, rfl⟩ := hcut
            have HK : Hid (rdOkN s.data.toList = ((decide (b ≠ 0) && (rdDig b o.data.toList && rdDig b z.data.toList)) && decide (rval b z.data.toList ≠ 0))) := by
              unfold Hid rdOkN; rw [HO.out.2.1, ← HO.out.1, ← HZ.out]
            by_cases ho6 : o.size ≤ 600
            · by_cases hz6 : z.size ≤ 600
              · have ho6' : ¬ (600 : Int) < (o.size : Int) := by omega
                have hz6' : ¬ (600 : Int) < (z.size : Int) := by omega
                go_wp2_with fail
                refine (l1OfRadix_any o b r _ (by omega) HRB.out hr0 hr1).mono ?_
                rintro e w3 ⟨⟨t1, rfl, hc1, _⟩, hW3⟩
                obtain ⟨p1, hp1⟩ : ∃ p1, p1 = (decide (0 < o.size) && rdigs b o.data.toList) := ⟨_, rfl⟩
                rw [← hp1]
                have HP1 : Hid (rdDig b o.data.toList = p1) := by unfold Hid; rw [hp1]; exact rdDig_eq ho6
                have HC1 : Hid (p1 = true → canonB t1.data.toList = true ∧ dval t1.data.toList = rval b o.data.toList) := fun h => hc1 (by rw [h] at hp1; simp at hp1; exact hp1.2)
                have hB3 := hW2.trans (hW3.mono hW2.size)
                clear hp1 hc1
                go_wp2_with fail
                refine (l1OfRadix_any z b r _ (by omega) HRB.out hr0 hr1).mono ?_
                rintro e w4 ⟨⟨t2, rfl, hc2, _⟩, hW4⟩
                obtain ⟨p2, hp2⟩ : ∃ p2, p2 = (decide (0 < z.size) && rdigs b z.data.toList) := ⟨_, rfl⟩
                rw [← hp2]
                have HP2 : Hid (rdDig b z.data.toList = p2) := by unfold Hid; rw [hp2]; exact rdDig_eq hz6
                have HC2 : Hid (p2 = true → canonB t2.data.toList = true ∧ dval t2.data.toList = rval b z.data.toList) := fun h => hc2 (by rw [h] at hp2; simp at hp2; exact hp2.2)
                have hB4 := hB3.trans (hW4.mono hB3.size)
                clear hp2 hc2
                cases p1 with
                | false =>
                  have HN : Hid (rdOkN s.data.toList = false) := by unfold Hid; rw [HK.out, HP1.out]; simp
                  go_wp2
                  go_ret2
                  exact ⟨.inr ⟨HN.out, rfl⟩, hB4⟩
                | true =>
                  cases p2 with
                  | false =>
                    have HN : Hid (rdOkN s.data.toList = false) := by unfold Hid; rw [HK.out, HP2.out]; simp
                    go_wp2
                    go_ret2
                    exact ⟨.inr ⟨HN.out, rfl⟩, hB4⟩
                  | true =>
                    obtain ⟨c1, v1⟩ := HC1.out rfl
                    obtain ⟨c2, v2⟩ := HC2.out rfl
                    have hb16 : b ≤ 16 := by have := HRB.out; omega
                    have hb0 : b ≠ 0 := by have := HRB.out; omega
                    have s1 : t1.size ≤ 1200 := rad_size hb16 ho6 (rdDig_digs HP1.out) c1 v1
                    have s2 : t2.size ≤ 1200 := rad_size hb16 hz6 (rdDig_digs HP2.out) c2 v2
                    have HCC := hideT' (And.intro (And.intro c1 v1) (And.intro c2 v2))
                    have HB := hideT' hb0
                    clear c1 v1 c2 v2 hb16 hb0
                    by_cases hz0 : t2.data.toList = [48]
                    · have hz0' : (t2.toList == [48]) = true := str_eq hz0
                      have HN : Hid (rdOkN s.data.toList = false) := by
                        have : rval b z.data.toList = 0 := by rw [← HCC.out.2.2, hz0]; decide
                        unfold Hid; rw [HK.out, this]; simp
                      clear hz0
                      go_wp2
                      go_ret2
                      exact ⟨.inr ⟨HN.out, rfl⟩, hB4⟩
                    · have hz0' : (t2.toList == [48]) = false := str_ne hz0
                      have HD : Hid (dval t2.data.toList ≠ 0) := fun e => hz0 ((canon_zero HCC.out.2.1).1 e)
                      clear hz0
                      go_wp2_with fail
                      refine (l2Make_any g t1 t2 _ (by omega) (by omega) HCC.out.1.1 HCC.out.2.1 HD.out).mono ?_
                      rintro e w5 ⟨hTN, hW5⟩
                      have HI : Hid (ReadAns s e) := by
                        refine .inl ⟨?_, ?_⟩
                        · rw [HK.out, HP1.out, HP2.out, decide_eq_true HB.out, decide_eq_true (by rw [← HCC.out.2.2]; exact HD.out)]; rfl
                        · rw [HO.out.2.1, HO.out.2.2, ← HO.out.1, ← HZ.out, ← HCC.out.1.2, ← HCC.out.2.2]
                          exact hTN
                      obtain ⟨s5, o5, rfl⟩ := hTN.form3
                      have hB5 := hB4.trans (hW5.mono hB4.size)
                      clear hTN
                      go_wp2
                      go_ret2
                      exact ⟨HI.out, hB5⟩
              · have ho6' : ¬ (600 : Int) < (o.size : Int) := by omega
                have hz6' : (600 : Int) < (z.size : Int) := by omega
                have HN : Hid (rdOkN s.data.toList = false) := by unfold Hid; rw [HK.out, rdDig_long hz6]; simp
                go_wp2
                go_ret2
                exact ⟨.inr ⟨HN.out, rfl⟩, hW2⟩
            · have ho6' : (600 : Int) < (o.size : Int) := by omega
              have HN : Hid (rdOkN s.data.toList = false) := by unfold Hid; rw [HK.out, rdDig_long ho6]; simp
              go_wp2
              go_ret2
              exact ⟨.inr ⟨HN.out, rfl⟩, hW2⟩

end Go.Proofs.YtkhabnficogbjaaGreatDoor

/-
  What readDigits of impl answers.
-/
namespace Go.Proofs.YtkhabnficogbjaaGreatDoor
open Go.RowKit
set_option linter.unusedVariables false

/-- At most 1200 digits just where there are at most 200 parts. -/
theorem Rep.fits2 {n k : Nat} {p : List Int} (h : Rep n k p) : k ≤ 200 ↔ n < 10 ^ 1200 := by
  have e : ((10 ^ 1200 : Nat) : Int) = 1000000 ^ 200 := by decide +kernel
  constructor
  · intro hk
    have h1 := h.lt
    have : (1000000 : Int) ^ k ≤ 1000000 ^ 200 := ipow_le hk
    omega
  · intro hn
    by_cases hk : k ≤ 200
    · exact hk
    · have h2 := h.ge (by omega)
      have : (1000000 : Int) ^ 200 ≤ 1000000 ^ (k - 1) := ipow_le (by omega)
      omega

/-- Are these 1..2000 digits of the radix, which tell a number of at most 1200 digits? -/
def rdOk (b : Nat) (s : ByteArray) : Bool := (decide (1 ≤ s.size) && decide (s.size ≤ 2000)) && (rdigs b s.data.toList && decide (rval b s.data.toList < 10 ^ 1200))

theorem rd_bad {b : Nat} {s : ByteArray} (i : Nat) (h : i < s.size) (hb : ¬ dg s[i] < b) : rdOk b s = false := by
  have : rdigs b s.data.toList = false := by
    unfold rdigs
    rw [List.all_eq_false]
    exact ⟨s.data.toList[i]'(by simpa using h), List.getElem_mem _, fun h => hb (of_decide_eq_true h)⟩
  unfold rdOk; rw [this, Bool.false_and, Bool.and_false]

theorem rd_long {b : Nat} {s : ByteArray} (i : Nat) (hb : 1 ≤ b) (hv : ¬ rval b (s.data.toList.take i) < 10 ^ 1200) : rdOk b s = false := by
  have h1 := rval_mono b hb (s.data.toList.take i) (s.data.toList.drop i)
  rw [List.take_append_drop] at h1
  have h2 : ¬ rval b s.data.toList < 10 ^ 1200 := fun h => hv (Nat.lt_of_le_of_lt h1 h)
  unfold rdOk; rw [decide_eq_false h2, Bool.and_false, Bool.and_false]

theorem rd_take (b : Nat) (s : ByteArray) (i : Nat) (h : i < s.size) : rval b (s.data.toList.take (i + 1)) = b * rval b (s.data.toList.take i) + dg s[i] := by
  rw [take_snoc s i h, rval_snoc]

theorem zero_rep : Rep 0 0 zP :=
  ⟨zP_len, by omega, fun i => by rw [zP_get]; omega, fun i => by rw [zP_get]; omega, fun i _ => zP_get i, fun h => absurd h (by omega), by rw [vb_zero _ _ zP_get]; rfl⟩

set_option maxHeartbeats 1000000 in
set_option maxRecDepth 100000 in
theorem readDigits_any (s : ByteArray) (b : Nat) (r : Int) (w : World) (hs : s.size ≤ maxLen) (hr : r = (b : Int)) (hr0 : 2 ≤ r) (hr1 : r ≤ 16) :
    Calls Tryz.prog 95 #[.string s, .int .i64 r] w fun e w' => ∃ (i : Nat) (q : List Int), e = .returned (.tuple #[.agg (natC i q), .bool (rdOk b s)]) ∧ q.length = 204 ∧ (rdOk b s = true → Rep (rval b s.data.toList) i q) ∧ Below w.heap.size w w' := by
  have hz := zero_nat.1
  unfold maxLen at hs
  have HR := hide hr
  have A := (NatAt.new w 0 zP).old (.cells (natC 0 zP) 81)
  have B := NatAt.new (w.alloc (.cells (natC 0 zP) 81)) 0 zP
  have hB : Below w.heap.size w ((w.alloc (.cells (natC 0 zP) 81)).alloc (.cells (natC 0 zP) 81)) := ((Below.refl _ _).alloc (Nat.le_refl _) _).alloc (by simp) _
  simp only [World.size_alloc] at B
  clear hr
  by_cases hl : 1 ≤ (s.size : Int) ∧ (s.size : Int) ≤ 2000
  · obtain ⟨hl1, hl2⟩ := hl
    go_enter Tryz.func95, Tryz.ntmps95
    go_wp2
    go_loopg [20] s.size (fun g x wr => ∃ (t kc : Nat) (pc : List Int), g = s.size - t ∧ t ≤ s.size ∧ x = .int .i64 (t : Int) ∧ Hid (Rep (rval b (s.data.toList.take t)) kc pc) ∧ Hid (rdigs b (s.data.toList.take t) = true) ∧ kc ≤ 200 ∧ pc.length = 204 ∧ NatAt wr w.heap.size 0 zP ∧ NatAt wr (w.heap.size + 1) kc pc ∧ Below w.heap.size w wr)
    case atStart => exact ⟨0, 0, zP, rfl, by omega, rfl, zero_rep, rfl, by omega, zP_len, A, B, hB⟩
    case round =>
      obtain ⟨t, kc, pc, rfl, ht, rfl, HC, HDG, hkc, hpc, hA, hBn, hW⟩ := hrel
      clear A B hB
      have hWs := hW.size
      have lB := hBn.lt
      by_cases hlt : (t : Int) < (s.size : Int)
      · have ht' : t < s.size := by omega
        obtain ⟨d, hd⟩ : ∃ d : Int, d = digI ((s[t]'ht').toNat : Int) := ⟨_, rfl⟩
        have hdn : d = (dg s[t] : Int) := by rw [hd, dg_cast]
        have hd0 : 0 ≤ d := by omega
        have hd1 : d ≤ 16 := by have := dg_le s[t]; omega
        have hcb : ((s[t]'ht').toNat : Int) ≤ 255 := by have := (s[t]'ht').toNat_lt; omega
        have HD := hide (And.intro hd hdn)
        clear hd hdn
        go_wp2_with fail
        refine (digitOf_any ((s[t]'ht').toNat : Int) _ (by omega) hcb).mono ?_
        rintro e w' ⟨rfl, rfl⟩
        rw [← HD.out.1]
        by_cases hbad : r ≤ d
        · have HN : Hid (rdOk b s = false) := rd_bad t ht' (by have := HD.out.2; have := HR.out; omega)
          go_wp2_with (first | (refine load_nat rfl _ rfl (w.heap.size + 1) rfl kc pc hBn hpc ?_) | (refine store_nat rfl _ _ rfl rfl w.heap.size kc pc rfl rfl 0 zP hA zP_len hpc ?_; intro w1 hN1 hg1 hs1))
          refine bodyPost_ret (v := .tuple #[.agg (natC kc pc), .bool false]) (res_nat_tmp Tryz.results95 _ _ w.heap.size _ _ _ rfl rfl hN1 hpc) rfl ⟨kc, pc, by rw [HN.out], hpc, (fun h => by rw [HN.out] at h; cases h), ?_⟩
          exact hW.grown hg1 (by omega) (by intro k hk; cases hk; omega)
        · go_wp2_with (first | (refine load_nat rfl _ rfl (w.heap.size + 1) rfl kc pc hBn hpc ?_))
          refine (timesSmall_any r d w' b (dg s[t]) HC.out (by omega) HR.out HD.out.2 (by omega) hr1 hd0 hd1).mono ?_
          rintro e w2 ⟨i, q, rfl, hR, hW2⟩
          have hq := hR.len
          rw [← rd_take b s t ht'] at hR
          have HR2 := hide hR
          have hA2 := hA.below hW2 (by omega)
          have hB2 := hBn.below hW2 (by omega)
          have hW2' : Below w.heap.size w w2 := hW.trans (hW2.mono (by omega))
          have hs2 := hW2.size
          have HDG2 : Hid (rdigs b (s.data.toList.take (t + 1)) = true) := by
            unfold Hid rdigs
            rw [take_snoc s t ht', List.all_append]
            have h1 := HDG.out
            unfold rdigs at h1
            rw [h1]
            simp
            have := HD.out.2; have := HR.out; omega
          clear hR hA hBn hW hW2 HDG HC
          by_cases hf : (i : Int) ≤ 200
          · have hf' : ¬ (200 : Int) < (i : Int) := by omega
            go_wp2_with (first | (refine store_nat rfl _ _ rfl rfl (w.heap.size + 1) i q rfl rfl kc pc hB2 hpc hq ?_; intro w3 hN3 hg3 hs3; have c0 := hN3.c0))
            have hA3 := hA2.grown hg3 (by simp)
            have hW3 : Below w.heap.size w w3 := hW2'.grown hg3 (by omega) (by intro k hk; cases hk; omega)
            go_roundg (s.size - (t + 1))
            case measure => omega
            case rel => exact ⟨t + 1, i, q, rfl, by omega, by go_num, HR2, HDG2, by omega, hq, hA3, hN3, hW3⟩
          · have HN : Hid (rdOk b s = false) := rd_long (t + 1) (by have := HR.out; omega) (fun h => hf (by have := HR2.out.fits2.2 h; omega))
            have hf' : (200 : Int) < (i : Int) := by omega
            go_wp2_with (first | (refine store_nat rfl _ _ rfl rfl (w.heap.size + 1) i q rfl rfl kc pc hB2 hpc hq ?_; intro w3 hN3 hg3 hs3; have c0 := hN3.c0; have hA3 := hA2.grown hg3 (by simp)) | (refine load_nat rfl _ rfl (w.heap.size + 1) rfl i q hN3 hq ?_) | (refine store_nat rfl _ _ rfl rfl w.heap.size i q rfl rfl 0 zP hA3 zP_len hq ?_; intro w5 hN5 hg5 hs5))
            have hW3 : Below w.heap.size w w3 := hW2'.grown hg3 (by omega) (by intro k hk; cases hk; omega)
            refine bodyPost_ret (v := .tuple #[.agg (natC i q), .bool false]) (res_nat_tmp Tryz.results95 _ _ w.heap.size _ _ _ rfl rfl hN5 hq) rfl ⟨i, q, by rw [HN.out], hq, (fun h => by rw [HN.out] at h; cases h), ?_⟩
            exact hW3.grown hg5 (by omega) (by intro k hk; cases hk; omega)
      · have hts : t = s.size := by omega
        have htk : s.data.toList.take t = s.data.toList := by rw [hts]; exact List.take_of_length_le (by simp)
        rw [htk] at HC HDG
        have HN : Hid (rdOk b s = true) := by
          have h1 := HC.out.fits2.1 hkc
          unfold Hid rdOk
          rw [HDG.out, decide_eq_true h1, decide_eq_true (by omega), decide_eq_true (by omega)]; rfl
        clear hts htk
        go_wp2_with (first | (refine load_nat rfl _ rfl (w.heap.size + 1) rfl kc pc hBn hpc ?_) | (refine store_nat rfl _ _ rfl rfl w.heap.size kc pc rfl rfl 0 zP hA zP_len hpc ?_; intro w1 hN1 hg1 hs1))
        refine bodyPost_ret (v := .tuple #[.agg (natC kc pc), .bool true]) (res_nat_tmp Tryz.results95 _ _ w.heap.size _ _ _ rfl rfl hN1 hpc) rfl ⟨kc, pc, by rw [HN.out], hpc, (fun _ => HC.out), ?_⟩
        exact hW.grown hg1 (by omega) (by intro k hk; cases hk; omega)
  · have HN : Hid (rdOk b s = false) := by
      unfold Hid rdOk
      have : (decide (1 ≤ s.size) && decide (s.size ≤ 2000)) = false := by simp; omega
      rw [this]; rfl
    have hl' : (s.size : Int) < 1 ∨ (2000 : Int) < (s.size : Int) := by omega
    clear hl
    rcases hl' with hl | hl
    all_goals
      go_enter Tryz.func95, Tryz.ntmps95
      go_wp2_with (first | (refine load_nat rfl _ rfl (w.heap.size + 1) rfl 0 zP B zP_len ?_) | (refine store_nat rfl _ _ rfl rfl w.heap.size 0 zP rfl rfl 0 zP A zP_len zP_len ?_; intro w1 hN1 hg1 hs1))
      refine bodyPost_ret (v := .tuple #[.agg (natC 0 zP), .bool false]) (res_nat_tmp Tryz.results95 _ _ w.heap.size _ _ _ rfl rfl hN1 zP_len) rfl ⟨0, zP, by rw [HN.out]; rfl, zP_len, (fun h => by rw [HN.out] at h; cases h), ?_⟩
      exact hB.grown hg1 (by simp; omega) (by intro k hk; cases hk; exact Nat.le_refl _)
end Go.Proofs.YtkhabnficogbjaaGreatDoor

/-
  What impl.ReadNum reads behind the radix's sign: plain facts, and what cutRadix and cutSign of impl answer.
-/
namespace Go.Proofs.YtkhabnficogbjaaGreatDoor
open Go.RowKit
set_option linter.unusedVariables false

def coTop (l : List UInt8) : List UInt8 := (cut47 (sigN l).2).1
def coUnd (l : List UInt8) : List UInt8 := (cut47 (sigN l).2).2.1
def coBrk (l : List UInt8) : Bool := (cut47 (sigN l).2).2.2
def coBot (l : List UInt8) : List UInt8 := if coBrk l then coUnd l else [49]
def coOk (b : Nat) (l : List UInt8) : Bool := (rdDig b (coTop l) && rdDig b (coBot l)) && decide (rval b (coBot l) ≠ 0)
/-- The radix and what stands behind its sign; where a # is none, the text as it is, which no digits are. -/
def RadCut (l : List UInt8) (b : Nat) (t : List UInt8) : Prop := radN l = (b, t) ∨ (b = 10 ∧ t = l ∧ l.head? = some 35 ∧ rdRad l = 0)

theorem coOk_of {l t : List UInt8} {b : Nat} (h : RadCut l b t) (hb : b ≠ 0) : rdOkN l = coOk b t := by
  rcases h with h | ⟨rfl, rfl, h1, h2⟩
  · unfold rdOkN coOk rdTop rdBot rdRad coTop coBot coUnd coBrk
    rw [h]
    simp [hb]
  · have e1 : rdOkN t = false := by unfold rdOkN; rw [h2]; rfl
    rw [e1]
    obtain ⟨m, rfl⟩ : ∃ m, t = 35 :: m := by
      cases t with
      | nil => cases h1
      | cons c m => simp at h1; exact ⟨m, by rw [h1]⟩
    have e2 : coTop (35 :: m) = 35 :: (cut47 m).1 := rfl
    have e3 : rdigs 10 (35 :: (cut47 m).1) = false := by
      unfold rdigs
      rw [List.all_cons]
      have : decide (dg 35 < 10) = false := by decide
      rw [this]; rfl
    unfold coOk rdDig
    rw [e2, e3]; simp

theorem ReadAns.mk' {s t : ByteArray} {b : Nat} (h : RadCut s.data.toList b t.data.toList) (hb : b ≠ 0) {e : Ending}
    (he : (coOk b t.data.toList = true ∧ TellsN ((sigN t.data.toList).1 && decide (rval b (coTop t.data.toList) ≠ 0)) (rval b (coTop t.data.toList) / Nat.gcd (rval b (coTop t.data.toList)) (rval b (coBot t.data.toList))) (rval b (coBot t.data.toList) / Nat.gcd (rval b (coTop t.data.toList)) (rval b (coBot t.data.toList))) e) ∨ (coOk b t.data.toList = false ∧ Mute e)) : ReadAns s e := by
  rcases he with ⟨ho, he⟩ | ⟨ho, he⟩
  · refine .inl ⟨by rw [coOk_of h hb]; exact ho, ?_⟩
    rcases h with h | ⟨rfl, h0, h1, h2⟩
    · unfold rdNeg rdTop rdBot rdRad
      rw [h]
      exact he
    · have := coOk_of (.inr ⟨rfl, h0, h1, h2⟩ : RadCut s.data.toList 10 t.data.toList) hb
      rw [ho] at this
      unfold rdOkN at this
      rw [h2] at this
      cases this
  · exact .inr ⟨by rw [coOk_of h hb]; exact ho, he⟩

theorem below_drewN {B : Nat} {a w : World} (h : Below B a w) (n : Nat) : Below B a (w.drewN n) := ⟨h.os, h.tape, h.output, h.size, h.block⟩
theorem ten_le {n : Nat} (a b : Nat) (hab : a ≤ b) (h : n < 10 ^ a) : n < 10 ^ b := Nat.lt_of_lt_of_le h (Nat.pow_le_pow_right (by decide) hab)
theorem rdOk_dig {b : Nat} {o : ByteArray} (hb : b ≤ 16) (h : o.size ≤ 600) : rdOk b o = rdDig b o.data.toList := by
  rw [rdDig_eq h]
  unfold rdOk
  rw [decide_eq_true (show o.size ≤ 2000 by omega), Bool.and_true]
  cases hd : rdigs b o.data.toList with
  | false => rw [Bool.false_and, Bool.and_false, Bool.and_false]
  | true =>
    have hl : o.data.toList.length = o.size := by simp
    have h1 := rval_lt b o.data.toList hd
    rw [hl] at h1
    have h3 : rval b o.data.toList < 10 ^ 1200 := ten_le (2 * o.size) 1200 (by omega) (Nat.lt_of_lt_of_le h1 (rad_pow hb))
    rw [decide_eq_true h3]
    by_cases h0 : 0 < o.size
    · rw [decide_eq_true h0, decide_eq_true (show 1 ≤ o.size by omega)]; rfl
    · rw [decide_eq_false h0, decide_eq_false (show ¬ 1 ≤ o.size by omega)]; rfl

set_option maxHeartbeats 1000000 in
set_option maxRecDepth 100000 in
theorem cutRadix_any (s : ByteArray) (w : World) (hs : s.size ≤ maxLen) :
    Calls Tryz.prog 93 #[.string s] w fun e w' => (∃ (t : ByteArray) (b : Nat) (r : Int), e = .returned (.tuple #[.int .i64 r, .string t]) ∧ r = (b : Int) ∧ 2 ≤ r ∧ r ≤ 16 ∧ RadCut s.data.toList b t.data.toList ∧ t.size ≤ s.size) ∧ Below w.heap.size w w' := by
  unfold maxLen at hs
  cases hh : hsh s with
  | false =>
    have HX := hideT' (hsh_no hh)
    by_cases h1 : 1 < s.size
    · have h1' : ¬ (s.size : Int) < 2 := by omega
      have h0 : 0 < s.size := by omega
      rw [hsh_of h1] at hh
      have h35' : ((s[0].toNat : Int) == 35) = false := byte_ne (n := 35) (by decide) (by simpa using hh)
      clear hh
      go_enter Tryz.func93, Tryz.ntmps93
      go_wp2
      go_ret2
      exact ⟨⟨s, 10, 10, rfl, rfl, by omega, by omega, .inl HX.out, Nat.le_refl _⟩, Below.refl _ _⟩
    · have h1' : (s.size : Int) < 2 := by omega
      clear hh
      go_enter Tryz.func93, Tryz.ntmps93
      go_wp2
      go_ret2
      exact ⟨⟨s, 10, 10, rfl, rfl, by omega, by omega, .inl HX.out, Nat.le_refl _⟩, Below.refl _ _⟩
  | true =>
    obtain ⟨h1, hr⟩ := hsh_yes hh
    have h0 : 0 < s.size := by omega
    have h1' : ¬ (s.size : Int) < 2 := by omega
    have h2' : (2 : Int) ≤ (s.size : Int) := by omega
    have hh' := hh
    rw [hsh_of h1] at hh'
    have h35' : (s[0].toNat : Int) = 35 := by rw [eq_of_beq hh']; rfl
    have H35 : Hid (s.data.toList.head? = some 35) := by
      unfold Hid; rw [List.head?_eq_getElem?, getN 0 h0, eq_of_beq hh']
    have HR : Hid (radN s.data.toList = (letR s[1], s.data.toList.drop 2)) := by
      unfold Hid; rw [hr]; simp [List.getD, getN 1 h1]
    clear hr hh hh'
    by_cases h120 : s[1] = 120
    · have hl : letR s[1] = 16 := by rw [h120]; rfl
      have hb : (s[1].toNat : Int) = 120 := by rw [h120]; rfl
      have HX : Hid (radN s.data.toList = (16, (s.extract 2 s.size).data.toList)) := by unfold Hid; rw [HR.out, hl, ext_tail]
      clear h120 hl
      go_enter Tryz.func93, Tryz.ntmps93
      go_wp2_with fail
      go_quiet (fail)
      go_wp2
      (try simp only [Exit.inBlock, Exit.then]); refine bodyPost_ret (results_tmp2 rfl _ _ _) rfl ?_
      exact ⟨⟨s.extract 2 s.size, 16, 16, rfl, rfl, by omega, by omega, .inl HX.out, by simp⟩, below_drewN (Below.refl _ _) _⟩
    · have n120 : ((s[1].toNat : Int) == 120) = false := byte_ne (n := 120) (by decide) h120
      by_cases h111 : s[1] = 111
      · have hl : letR s[1] = 8 := by rw [h111]; rfl
        have hb : (s[1].toNat : Int) = 111 := by rw [h111]; rfl
        have HX : Hid (radN s.data.toList = (8, (s.extract 2 s.size).data.toList)) := by unfold Hid; rw [HR.out, hl, ext_tail]
        clear h111 hl n120 h120
        go_enter Tryz.func93, Tryz.ntmps93
        go_wp2_with fail
        go_quiet (fail)
        go_wp2
        (try simp only [Exit.inBlock, Exit.then]); refine bodyPost_ret (results_tmp2 rfl _ _ _) rfl ?_
        exact ⟨⟨s.extract 2 s.size, 8, 8, rfl, rfl, by omega, by omega, .inl HX.out, by simp⟩, below_drewN (Below.refl _ _) _⟩
      · have n111 : ((s[1].toNat : Int) == 111) = false := byte_ne (n := 111) (by decide) h111
        by_cases h98 : s[1] = 98
        · have hl : letR s[1] = 2 := by rw [h98]; rfl
          have hb : (s[1].toNat : Int) = 98 := by rw [h98]; rfl
          have HX : Hid (radN s.data.toList = (2, (s.extract 2 s.size).data.toList)) := by unfold Hid; rw [HR.out, hl, ext_tail]
          clear h98 hl n120 h120 n111 h111
          go_enter Tryz.func93, Tryz.ntmps93
          go_wp2_with fail
          go_quiet (fail)
          go_wp2
          (try simp only [Exit.inBlock, Exit.then]); refine bodyPost_ret (results_tmp2 rfl _ _ _) rfl ?_
          exact ⟨⟨s.extract 2 s.size, 2, 2, rfl, rfl, by omega, by omega, .inl HX.out, by simp⟩, below_drewN (Below.refl _ _) _⟩
        · have n98 : ((s[1].toNat : Int) == 98) = false := byte_ne (n := 98) (by decide) h98
          by_cases h100 : s[1] = 100
          · have hl : letR s[1] = 10 := by rw [h100]; rfl
            have hb : (s[1].toNat : Int) = 100 := by rw [h100]; rfl
            have HX : Hid (radN s.data.toList = (10, (s.extract 2 s.size).data.toList)) := by unfold Hid; rw [HR.out, hl, ext_tail]
            clear h100 hl n120 h120 n111 h111 n98 h98
            go_enter Tryz.func93, Tryz.ntmps93
            go_wp2_with fail
            go_quiet (fail)
            go_wp2
            (try simp only [Exit.inBlock, Exit.then]); refine bodyPost_ret (results_tmp2 rfl _ _ _) rfl ?_
            exact ⟨⟨s.extract 2 s.size, 10, 10, rfl, rfl, by omega, by omega, .inl HX.out, by simp⟩, below_drewN (Below.refl _ _) _⟩
          · have n100 : ((s[1].toNat : Int) == 100) = false := byte_ne (n := 100) (by decide) h100
            have HN : Hid (rdRad s.data.toList = 0) := by
              unfold Hid rdRad; rw [HR.out]; show letR s[1] = 0; unfold letR; rw [if_neg h120, if_neg h111, if_neg h98, if_neg h100]
            clear h120 h111 h98 h100
            go_enter Tryz.func93, Tryz.ntmps93
            go_wp2
            go_ret2
            exact ⟨⟨s, 10, 10, rfl, rfl, by omega, by omega, .inr ⟨rfl, rfl, H35.out, HN.out⟩, Nat.le_refl _⟩, Below.refl _ _⟩

set_option maxHeartbeats 1000000 in
set_option maxRecDepth 100000 in
theorem cutSign_any (s : ByteArray) (w : World) (hs : s.size ≤ maxLen) :
    Calls Tryz.prog 94 #[.string s] w fun e w' => (∃ t : ByteArray, e = .returned (.tuple #[.bool (sigN s.data.toList).1, .string t]) ∧ t.data.toList = (sigN s.data.toList).2 ∧ t.size ≤ s.size) ∧ Below w.heap.size w w' := by
  unfold maxLen at hs
  by_cases h0 : 0 < s.size
  · have h0' : (1 : Int) ≤ (s.size : Int) := by omega
    have hl : s.data.toList.length = s.size := by simp
    have hne : (s.toList == []) = false := str_ne (fun e => by rw [e] at hl; simp at hl; omega)
    clear hl
    have HS := hideT' (sigN_of h0)
    by_cases h45 : s[0] = 45
    · have hb : (s[0].toNat : Int) = 45 := by rw [h45]; rfl
      have HX : Hid ((sigN s.data.toList).1 = true ∧ (s.extract 1 s.size).data.toList = (sigN s.data.toList).2) := by
        unfold Hid; rw [HS.out, if_pos h45, ext_tail]; exact ⟨rfl, rfl⟩
      clear h45
      go_enter Tryz.func94, Tryz.ntmps94
      go_wp2_with fail
      go_quiet (fail)
      go_wp2
      go_ret2
      exact ⟨⟨s.extract 1 s.size, by rw [HX.out.1]; rfl, HX.out.2, by simp⟩, below_drewN (Below.refl _ _) _⟩
    · have n45 : ((s[0].toNat : Int) == 45) = false := byte_ne (n := 45) (by decide) h45
      by_cases h43 : s[0] = 43
      · have hb : (s[0].toNat : Int) = 43 := by rw [h43]; rfl
        have HX : Hid ((sigN s.data.toList).1 = false ∧ (s.extract 1 s.size).data.toList = (sigN s.data.toList).2) := by
          unfold Hid; rw [HS.out, if_neg h45, if_pos h43, ext_tail]; exact ⟨rfl, rfl⟩
        clear h45 h43 n45
        go_enter Tryz.func94, Tryz.ntmps94
        go_wp2_with fail
        go_quiet (fail)
        go_wp2
        go_ret2
        exact ⟨⟨s.extract 1 s.size, by rw [HX.out.1]; rfl, HX.out.2, by simp⟩, below_drewN (Below.refl _ _) _⟩
      · have n43 : ((s[0].toNat : Int) == 43) = false := byte_ne (n := 43) (by decide) h43
        have HX : Hid ((sigN s.data.toList).1 = false ∧ s.data.toList = (sigN s.data.toList).2) := by
          unfold Hid; rw [HS.out, if_neg h45, if_neg h43]; exact ⟨rfl, rfl⟩
        clear h45 h43
        go_enter Tryz.func94, Tryz.ntmps94
        go_wp2
        go_ret2
        exact ⟨⟨s, by rw [HX.out.1]; rfl, HX.out.2, Nat.le_refl _⟩, Below.refl _ _⟩
  · have hl : s.data.toList.length = s.size := by simp
    have he : s.data.toList = [] := List.length_eq_zero_iff.1 (by omega)
    have hne : (s.toList == []) = true := str_eq he
    have HX : Hid ((sigN s.data.toList).1 = false ∧ s.data.toList = (sigN s.data.toList).2) := by
      unfold Hid; rw [sigN_none h0]; exact ⟨rfl, rfl⟩
    clear hl he
    go_enter Tryz.func94, Tryz.ntmps94
    go_wp2
    go_ret2
    exact ⟨⟨s, by rw [HX.out.1]; rfl, HX.out.2, Nat.le_refl _⟩, Below.refl _ _⟩
end Go.Proofs.YtkhabnficogbjaaGreatDoor

/-
  What impl.ReadNum answers.
-/
namespace Go.Proofs.YtkhabnficogbjaaGreatDoor
open Go.RowKit
set_option linter.unusedVariables false

theorem len_le {s : ByteArray} {n : Nat} (h : s.data.toList.length ≤ n) : s.size ≤ n := by simpa using h

set_option maxHeartbeats 2000000 in
set_option maxRecDepth 100000 in
theorem implReadNum_any (s : ByteArray) (w : World) (hs : s.size ≤ maxLen) (hT : Tab w.heap.size w) :
    Calls Tryz.prog 64 #[.string s] w fun e w' => ReadAns s e ∧ Below w.heap.size w w' := by
  have hz := zero_nat.1
  have HT : Hid (Tab w.heap.size w) := hT
  clear hT
  go_enter Tryz.func64, Tryz.ntmps64
  go_wp2_with fail
  refine (cutRadix_any s _ hs).mono ?_
  rintro e w0 ⟨⟨t, b, r, rfl, hrb, hr0, hr1, hRC, hts⟩, hW0⟩
  have HRC := hideT' hRC
  have HRB := hideT' hrb
  have HBB : Hid (b ≠ 0) := by unfold Hid; omega
  clear hRC hrb
  go_wp2_with fail
  refine (cutSign_any t _ (Nat.le_trans hts hs)).mono ?_
  rintro e w1 ⟨⟨u, rfl, hu, hus⟩, hW1⟩
  have HU := hideT' hu
  clear hu
  obtain ⟨ng, hng⟩ : ∃ ng, ng = (sigN t.data.toList).1 := ⟨_, rfl⟩
  rw [← hng]
  have HNG := hideT' hng
  clear hng
  go_wp2_with fail
  refine (cut_any u _ (Nat.le_trans hus (Nat.le_trans hts hs))).mono ?_
  rintro e w2 ⟨o, v, rfl, ho, hv, hW2⟩
  have hW2 : Below w.heap.size w w2 := hW0.trans ((hW1.trans (hW2.mono hW1.size)).mono hW0.size)
  clear hW0 hW1
  have hul : u.data.toList.length = u.size := by simp
  have hcs := cut_size u.data.toList
  have hos : o.size ≤ maxLen := len_le (by rw [ho]; omega)
  have hvs : v.size ≤ maxLen := len_le (by rw [hv]; omega)
  rw [HU.out] at ho hv ⊢
  have HO : Hid (o.data.toList = coTop t.data.toList) := ho
  have HV : Hid (v.data.toList = coUnd t.data.toList) := hv
  obtain ⟨bk, hbk⟩ : ∃ bk, bk = (cut47 (sigN t.data.toList).2).2.2 := ⟨_, rfl⟩
  rw [← hbk]
  have HBK : Hid (bk = coBrk t.data.toList) := hbk
  clear ho hv hul hcs hbk HU hs hts hus
  go_upto_if 30 with fail
  go_cut [7] (fun x wx => ∃ bt : ByteArray, x = .string bt ∧ Hid (bt.data.toList = coBot t.data.toList) ∧ bt.size ≤ maxLen ∧ wx = w2)
  case first =>
    cases bk with
    | true =>
      have HX : Hid (v.data.toList = coBot t.data.toList) := by unfold Hid coBot; rw [← HBK.out, if_pos rfl]; exact HV.out
      go_wp2
      go_meet
      case rel => exact ⟨v, rfl, HX, hvs, rfl⟩
    | false =>
      have HX : Hid (([49] : List UInt8) = coBot t.data.toList) := by unfold Hid coBot; rw [← HBK.out]; rfl
      go_wp2
      go_meet
      case rel => exact ⟨⟨#[49]⟩, rfl, HX, by decide, rfl⟩
  case rest =>
    obtain ⟨bt, rfl, HBT, hbs, rfl⟩ := hcut
    clear HV HBK hvs
    have NO : Hid (coOk b t.data.toList = false → ReadAns s (.returned (.tuple #[.string ⟨#[]⟩, .bool false]))) := fun h => ReadAns.mk' HRC.out HBB.out (.inr ⟨h, rfl⟩)
    by_cases h6 : (o.size : Int) ≤ 600 ∧ (bt.size : Int) ≤ 600
    · obtain ⟨h61, h62⟩ := h6
      have n61 : ¬ (600 : Int) < (o.size : Int) := by omega
      have n62 : ¬ (600 : Int) < (bt.size : Int) := by omega
      have HD1 : Hid (rdOk b o = rdDig b (coTop t.data.toList)) := by unfold Hid; rw [rdOk_dig (by have := HRB.out; omega) (by omega), HO.out]
      have HD2 : Hid (rdOk b bt = rdDig b (coBot t.data.toList)) := by unfold Hid; rw [rdOk_dig (by have := HRB.out; omega) (by omega), HBT.out]
      go_wp2_with fail
      refine (readDigits_any o b r _ hos HRB.out hr0 hr1).mono ?_
      rintro e w3 ⟨k, p, rfl, hp, hRp, hW3⟩
      have hs2 := hW2.size
      have hs3 := hW3.size
      have A := NatAt.new w3 0 zP
      have hB3 : Below w.heap.size w (w3.alloc (.cells (natC 0 zP) 81)) := (hW2.trans (hW3.mono hs2)).alloc (by omega) _
      obtain ⟨oa, hoa⟩ : ∃ oa, oa = rdOk b o := ⟨_, rfl⟩
      rw [← hoa] at hRp ⊢
      have HRP : Hid (oa = true → Rep (rval b o.data.toList) k p) := hRp
      have HOA : Hid (oa = rdDig b (coTop t.data.toList)) := by unfold Hid; rw [hoa]; exact HD1.out
      clear hRp hoa HD1
      go_wp2_with (refine store_nat rfl _ _ rfl rfl w3.heap.size k p rfl rfl 0 zP A zP_len hp ?_; intro w4 hN4 hg4 hs4)
      have hB4 : Below w.heap.size w w4 := hB3.grown hg4 (by simp; omega) (by intro k hk; cases hk; omega)
      have hs4' : w4.heap.size = w3.heap.size + 1 := by rw [hs4]; simp
      clear A hB3 hg4 hs4
      refine (readDigits_any bt b r _ hbs HRB.out hr0 hr1).mono ?_
      rintro e w5 ⟨m, q, rfl, hq, hRq, hW5⟩
      have hs5 := hW5.size
      have hN5 := hN4.below hW5 (by omega)
      have B := NatAt.new w5 0 zP
      have hB5 : Below w.heap.size w (w5.alloc (.cells (natC 0 zP) 81)) := (hB4.trans (hW5.mono hB4.size)).alloc (by omega) _
      obtain ⟨ob, hob⟩ : ∃ ob, ob = rdOk b bt := ⟨_, rfl⟩
      rw [← hob] at hRq ⊢
      have HRQ : Hid (ob = true → Rep (rval b bt.data.toList) m q) := hRq
      have HOB : Hid (ob = rdDig b (coBot t.data.toList)) := by unfold Hid; rw [hob]; exact HD2.out
      have hN6 := hN5.old (.cells (natC 0 zP) 81)
      clear hRq hob HD2 hN4 hB4 hW5 hN5
      cases oa with
      | false =>
        have HF := hideT' (NO.out (by unfold coOk; rw [← HOA.out]; rfl))
        go_wp2_with (refine store_nat rfl _ _ rfl rfl w5.heap.size m q rfl rfl 0 zP B zP_len hq ?_; intro w6 hM6 hg6 hs6; have c0 := hM6.c0)
        go_ret2
        exact ⟨HF.out, hB5.grown hg6 (by simp; omega) (by intro k hk; cases hk; omega)⟩
      | true =>
        cases ob with
        | false =>
          have HF := hideT' (NO.out (by unfold coOk; rw [← HOB.out, Bool.and_false]; rfl))
          go_wp2_with (refine store_nat rfl _ _ rfl rfl w5.heap.size m q rfl rfl 0 zP B zP_len hq ?_; intro w6 hM6 hg6 hs6; have c0 := hM6.c0)
          go_ret2
          exact ⟨HF.out, hB5.grown hg6 (by simp; omega) (by intro k hk; cases hk; omega)⟩
        | true =>
          have RA : Hid (Rep (rval b (coTop t.data.toList)) k p ∧ Rep (rval b (coBot t.data.toList)) m q) := ⟨by rw [← HO.out]; exact HRP.out rfl, by rw [← HBT.out]; exact HRQ.out rfl⟩
          by_cases hm0 : m = 0
          · have HF := hideT' (NO.out (by unfold coOk; rw [RA.out.2.zero_iff.1 hm0, Bool.and_eq_false_iff]; right; rfl))
            have hm0' : ((m : Int) == 0) = true := by simp [hm0]
            subst hm0
            go_wp2_with (refine store_nat rfl _ _ rfl rfl w5.heap.size _ q rfl rfl 0 zP B zP_len hq ?_; intro w6 hM6 hg6 hs6; have c0 := hM6.c0)
            go_ret2
            exact ⟨HF.out, hB5.grown hg6 (by simp; omega) (by intro k hk; cases hk; omega)⟩
          · have hm0' : ((m : Int) == 0) = false := by simp [hm0]
            have HOK : Hid (coOk b t.data.toList = true) := by
              unfold Hid coOk
              have h1 : rval b (coBot t.data.toList) ≠ 0 := fun e => hm0 (RA.out.2.zero_iff.2 e)
              rw [← HOA.out, ← HOB.out, decide_eq_true h1]; rfl
            have HS : Hid (decide (0 < k) = decide (rval b (coTop t.data.toList) ≠ 0)) := by
              unfold Hid
              have h := RA.out.1.zero_iff
              by_cases e : k = 0
              · rw [decide_eq_false (by omega), decide_eq_false (by have := h.1 e; omega)]
              · rw [decide_eq_true (by omega), decide_eq_true (show rval b (coTop t.data.toList) ≠ 0 from fun e' => e (h.2 e'))]
            have hk : k ≤ 202 := by
              have h1 : rdOk b o = true := by rw [rdOk_dig (by have := HRB.out; omega) (by omega), HO.out, ← HOA.out]
              unfold rdOk at h1
              simp only [Bool.and_eq_true, decide_eq_true_eq] at h1
              have := RA.out.1.fits2.2 (by rw [← HO.out]; exact h1.2.2)
              omega
            have hm : m ≤ 202 := by
              have h1 : rdOk b bt = true := by rw [rdOk_dig (by have := HRB.out; omega) (by omega), HBT.out, ← HOB.out]
              unfold rdOk at h1
              simp only [Bool.and_eq_true, decide_eq_true_eq] at h1
              have := RA.out.2.fits2.2 (by rw [← HBT.out]; exact h1.2.2)
              omega
            clear NO HRP HRQ HOA HOB
            go_wp2_with (first | (refine store_nat rfl _ _ rfl rfl w5.heap.size m q rfl rfl 0 zP B zP_len hq ?_; intro w6 hM6 hg6 hs6; have c0 := hM6.c0))
            have hs6' : w6.heap.size = w5.heap.size + 1 := by rw [hs6]; simp
            have hN7 := hN6.grown hg6 (by simp; omega)
            have hB6 : Below w.heap.size w w6 := hB5.grown hg6 (by simp; omega) (by intro k hk; cases hk; omega)
            clear B hB5 hN6 hg6 hs6 c0
            refine held_begin (fun w' => NatAt w' w3.heap.size k p ∧ NatAt w' w5.heap.size m q) (by kernel_rfl) ?_
            have hS : NatAt w6.drew w3.heap.size k p ∧ NatAt w6.drew w5.heap.size m q := ⟨hN7, hM6⟩
            refine held_val 0 (some 62) rfl rfl (by kernel_rfl) (by kernel_rfl) (by kernel_rfl) noPanic_put rfl (.bool ng) (fun _ => rfl) hS ?_
            simp only [Act.put, List.setIfInBounds_toArray, List.set_cons_zero, List.set_cons_succ]
            refine held_load 1 (some 63) rfl rfl (by kernel_rfl) (by kernel_rfl) (by kernel_rfl) noPanic_put rfl _ rfl w3.heap.size rfl k p (fun _ h => h.1) hp hS ?_
            simp only [Act.put, List.setIfInBounds_toArray, List.set_cons_zero, List.set_cons_succ]
            refine held_load 3 (some 65) rfl rfl (by kernel_rfl) (by kernel_rfl) (by kernel_rfl) noPanic_put rfl _ rfl w5.heap.size rfl m q (fun _ h => h.2) hq hS ?_
            simp only [Act.put, List.setIfInBounds_toArray, List.set_cons_zero, List.set_cons_succ]
            refine held_call 2 (some 64) (by kernel_rfl) rfl rfl rfl 98 #[.bool ng, .agg (natC k p)] (by go_simp) _ (wholeOf_any ng k p w6.drew hp) ?_
            rintro e w7 ⟨rfl, hW7⟩
            have hW7 : Below w6.heap.size w6 w7 := ⟨hW7.os, hW7.tape, hW7.output, hW7.size, hW7.block⟩
            have hS7 : NatAt w7 w3.heap.size k p ∧ NatAt w7 w5.heap.size m q := ⟨hN7.below hW7 (by omega), hM6.below hW7 (by omega)⟩
            have hB7 : Below w.heap.size w w7 := hB6.trans (hW7.mono hB6.size)
            have hs7 := hW7.size
            refine ⟨_, rfl, hS7, ?_⟩
            simp only [Act.put, List.setIfInBounds_toArray, List.set_cons_zero, List.set_cons_succ]
            refine held_call 4 (some 66) (by kernel_rfl) rfl rfl rfl 97 #[.agg (wholeC (ng && decide (0 < k)) k p), .agg (natC m q)] (by go_simp) _ (fraction_any (ng && decide (0 < k)) w7 RA.out.1 RA.out.2 (by omega) (by omega) (by omega)) ?_
            rintro e w8 ⟨i, l, r1, s1, rfl, hR1, hR2, hW8⟩
            have hS8 : NatAt w8 w3.heap.size k p ∧ NatAt w8 w5.heap.size m q := ⟨hS7.1.below hW8 (by omega), hS7.2.below hW8 (by omega)⟩
            have hB8 : Below w.heap.size w w8 := hB7.trans (hW8.mono hB7.size)
            have HT8 : Hid (Tab w8.heap.size w8) := (HT.out.on hB8).up hB8.size
            have hs8 := hW8.size
            refine ⟨_, rfl, hS8, ?_⟩
            simp only [Act.put, List.setIfInBounds_toArray, List.set_cons_zero, List.set_cons_succ]
            refine held_call 5 (some 67) (by kernel_rfl) rfl rfl rfl 96 #[.agg (numC (ng && decide (0 < k)) i r1 l s1)] (by go_simp) _ (tellNum_any (ng && decide (0 < k)) w8 hR1 hR2 HT8.out) ?_
            rintro e w9 ⟨hTN, hW9⟩
            have hTN' := hTN
            rw [HS.out, HNG.out] at hTN'
            have HA := hideT' (ReadAns.mk' HRC.out HBB.out (.inl ⟨HOK.out, hTN'⟩))
            obtain ⟨z, zo, rfl⟩ := hTN.form3
            clear hTN hTN'
            have hS9 : NatAt w9 w3.heap.size k p ∧ NatAt w9 w5.heap.size m q := ⟨hS8.1.below hW9 (by omega), hS8.2.below hW9 (by omega)⟩
            have hB9 : Below w.heap.size w w9 := hB8.trans (hW9.mono hB8.size)
            refine ⟨_, rfl, hS9, ?_⟩
            simp only [Act.put, List.setIfInBounds_toArray, List.set_cons_zero, List.set_cons_succ]
            refine held_val 6 (some 68) rfl rfl (by kernel_rfl) (by kernel_rfl) (by kernel_rfl) noPanic_put rfl (.string z) (fun _ => rfl) hS9 ?_
            simp only [Act.put, List.setIfInBounds_toArray, List.set_cons_zero, List.set_cons_succ]
            refine held_val 7 (some 69) rfl rfl (by kernel_rfl) (by kernel_rfl) (by kernel_rfl) noPanic_put rfl (.bool zo) (fun _ => rfl) hS9 ?_
            simp only [Act.put, List.setIfInBounds_toArray, List.set_cons_zero, List.set_cons_succ]
            refine held_assign 8 (some 2) (by kernel_rfl) rfl rfl _ rfl rfl (.string z) rfl hS9 ?_
            simp only [Act.put, List.setIfInBounds_toArray, List.set_cons_zero, List.set_cons_succ]
            refine held_assign 9 (some 3) (by kernel_rfl) rfl rfl _ rfl rfl (.bool zo) rfl hS9 ?_
            simp only [Act.put, List.setIfInBounds_toArray, List.set_cons_zero, List.set_cons_succ]
            refine wpAnyH_done (by kernel_rfl) ?_ _
            refine NoPanic.normal ?_
            go_wp2
            go_ret2
            exact ⟨HA.out, hB9⟩
    · have HF := hideT' (NO.out (by
        unfold coOk rdDig
        have l1 : (coTop t.data.toList).length = o.size := by rw [← HO.out]; simp
        have l2 : (coBot t.data.toList).length = bt.size := by rw [← HBT.out]; simp
        rw [l1, l2]
        by_cases e : o.size ≤ 600
        · rw [decide_eq_false (show ¬ bt.size ≤ 600 by omega)]; simp
        · rw [decide_eq_false e]; simp))
      by_cases e : (600 : Int) < (o.size : Int)
      · go_wp2
        go_ret2
        exact ⟨HF.out, hW2⟩
      · have e2 : (600 : Int) < (bt.size : Int) := by omega
        go_wp2
        go_ret2
        exact ⟨HF.out, hW2⟩
end Go.Proofs.YtkhabnficogbjaaGreatDoor

/-
  What times of impl's nats answers.
-/
namespace Go.Proofs.YtkhabnficogbjaaGreatDoor
open Go.RowKit
set_option linter.unusedVariables false

/-- The products of the parts of p below i with those of q below j, added up from Z on. -/
def rowsTo (Z p q : List Int) (j : Nat) : Nat → List Int
  | 0 => Z
  | i + 1 => subTo (rowsTo Z p q j i) q (-(p.getD i 0)) i j

theorem rowsTo_len (Z p q : List Int) (j i : Nat) : (rowsTo Z p q j i).length = Z.length := by
  induction i with
  | zero => rfl
  | succ i ih => simp [rowsTo, subTo_len, ih]

theorem subTo_add (p q : List Int) (m : Int) (u j i : Nat) (hj : u + j ≤ p.length) : (subTo p q (-m) u j).getD i 0 = if u ≤ i ∧ i < u + j then p.getD i 0 + m * q.getD (i - u) 0 else p.getD i 0 := by
  rw [subTo_get _ _ _ _ _ _ hj]
  split
  · rw [Int.neg_mul]; omega
  · rfl

theorem mul_bd {x y B : Int} (hx : 0 ≤ x) (hx1 : x < B) (hy : 0 ≤ y) (hy1 : y < B) : 0 ≤ x * y ∧ x * y ≤ B * B := by
  refine ⟨Int.mul_nonneg hx hy, ?_⟩
  have h1 : x * y ≤ B * y := Int.mul_le_mul_of_nonneg_right (by omega) hy
  have h2 : B * y ≤ B * B := Int.mul_le_mul_of_nonneg_left (by omega) (by omega)
  omega

/-- Bounds while a row is being added. -/
theorem part_bd (Z p q : List Int) (B : Int) (j i t x : Nat) (hB : 0 < B) (hZ : ∀ x, Z.getD x 0 = 0) (hp : ∀ x, 0 ≤ p.getD x 0 ∧ p.getD x 0 < B) (hq : ∀ x, 0 ≤ q.getD x 0 ∧ q.getD x 0 < B) (hlen : i + j ≤ Z.length) (ht : i + t ≤ Z.length)
    (ih : ∀ x, 0 ≤ (rowsTo Z p q j i).getD x 0 ∧ (rowsTo Z p q j i).getD x 0 ≤ (i : Int) * (B * B)) :
    0 ≤ (subTo (rowsTo Z p q j i) q (-(p.getD i 0)) i t).getD x 0 ∧ (subTo (rowsTo Z p q j i) q (-(p.getD i 0)) i t).getD x 0 ≤ ((i + 1 : Nat) : Int) * (B * B) := by
  rw [subTo_add _ _ _ _ _ _ (by rw [rowsTo_len]; exact ht)]
  have h1 := ih x
  have h2 := hp i
  have h3 := hq (x - i)
  have h4 := mul_bd h2.1 h2.2 h3.1 h3.2
  have h5 : 0 ≤ B * B := Int.mul_nonneg (by omega) (by omega)
  have e : ((i + 1 : Nat) : Int) * (B * B) = (i : Int) * (B * B) + B * B := by rw [Int.natCast_add, Int.add_mul]; simp
  split <;> omega

theorem rowsTo_bd (Z p q : List Int) (B : Int) (j i : Nat) (hB : 0 < B) (hZ : ∀ x, Z.getD x 0 = 0) (hp : ∀ x, 0 ≤ p.getD x 0 ∧ p.getD x 0 < B) (hq : ∀ x, 0 ≤ q.getD x 0 ∧ q.getD x 0 < B) (hlen : i + j ≤ Z.length) :
    ∀ x, 0 ≤ (rowsTo Z p q j i).getD x 0 ∧ (rowsTo Z p q j i).getD x 0 ≤ (i : Int) * (B * B) := by
  induction i with
  | zero => intro x; simp only [rowsTo]; rw [hZ x]; simp
  | succ i ih => intro x; exact part_bd Z p q B j i j x hB hZ hp hq (by omega) (by omega) (ih (by omega))

theorem rowsTo_zero (Z p q : List Int) (j i : Nat) (hZ : ∀ x, Z.getD x 0 = 0) (hlen : i + j ≤ Z.length) : ∀ x, i + j ≤ x → (rowsTo Z p q j i).getD x 0 = 0 := by
  induction i with
  | zero => intro x _; exact hZ x
  | succ i ih =>
    intro x hx
    simp only [rowsTo]
    rw [subTo_get _ _ _ _ _ _ (by rw [rowsTo_len]; omega), if_neg (by omega)]
    exact ih (by omega) x (by omega)

theorem rowsTo_val (B : Int) (Z p q : List Int) (j i : Nat) (hZ : ∀ x, Z.getD x 0 = 0) (hlen : i + j ≤ Z.length + 1) (hl : ∀ k, k < i → k + j ≤ Z.length) (hi : i ≤ p.length) (hj : j ≤ q.length) : vb B (rowsTo Z p q j i) = vb B (p.take i) * vb B (q.take j) := by
  induction i with
  | zero => simp only [rowsTo]; rw [vb_zero _ _ hZ]; simp [vb]
  | succ i ih =>
    simp only [rowsTo]
    rw [subTo_val _ _ _ _ _ _ (by rw [rowsTo_len]; exact hl i (by omega)) hj, ih (by omega) (fun k hk => hl k (by omega)) (by omega), List.take_succ_eq_append_getElem (by omega), vb_snoc]
    have : p.getD i 0 = p[i] := by simp [List.getD, show i < p.length by omega]
    rw [this, List.length_take, Nat.min_eq_left (by omega), Int.add_mul, Int.neg_mul]
    have e : p[i] * (B ^ i * vb B (q.take j)) = B ^ i * p[i] * vb B (q.take j) := by
      rw [← Int.mul_assoc, Int.mul_comm p[i] (B ^ i)]
    omega

end Go.Proofs.YtkhabnficogbjaaGreatDoor

/-
  What spec.l1Mul and spec.MulNat answer.
-/
namespace Go.Proofs.YtkhabnficogbjaaGreatDoor
open Go.RowKit
set_option linter.unusedVariables false

theorem info_int : (Tryz.prog.info? 3).map (fun i => (i.zero, i.size, i.bytes)) = some (some (.int .i64 0), 1, 8) := by kernel_rfl

theorem made_zeros (z : Value) (n : Nat) : (madeCells #[z] n).toList = List.replicate n z := by
  apply List.ext_getElem
  · simp [madeCells]
  · intro i h1 h2
    simp [madeCells, Nat.mod_one]

theorem made_own (w : World) (B n : Nat) (hB : B ≤ w.heap.size) (hn : n ≤ maxLen) : (w.alloc (.cells (madeCells #[.int .i64 0] n) 3)).ownsRow B 3 1 (.slice (some ⟨w.heap.size, 0, none⟩) n n) n (ints (List.replicate n 0)) := by
  refine ⟨by simp [ints], .inr ⟨w.heap.size, n, _, rfl, hB, (Array.getElem?_push_size (xs := w.heap) (x := .cells (madeCells #[.int .i64 0] n) 3)), Nat.le_refl _, hn, by simp [size_madeCells], ?_⟩⟩
  rw [made_zeros]
  simp [ints]

theorem own_lt {w : World} {B g n c : Nat} {l : List Int} (h : w.ownsRow B 3 1 (.slice (some ⟨g, 0, none⟩) n c) n (ints l)) (hn : 0 < n) : B ≤ w.heap.size := by
  obtain ⟨g', c', e, h1, h2, _⟩ := own_form h hn
  omega

theorem zeros_get (n : Nat) : ∀ x, (List.replicate n (0 : Int)).getD x 0 = 0 := by
  intro x
  simp only [List.getD, List.getElem?_replicate]
  split <;> rfl

theorem mul_lt_pow (k j : Nat) {a b : Nat} (ha : a < 10 ^ k) (hb : b < 10 ^ j) : a * b < 10 ^ (k + j) := by
  rw [Nat.pow_add]
  exact Nat.mul_lt_mul'' ha hb

end Go.Proofs.YtkhabnficogbjaaGreatDoor

/-
  What spec.PowNat answers.
-/
namespace Go.Proofs.YtkhabnficogbjaaGreatDoor
open Go.RowKit
set_option linter.unusedVariables false

theorem l1In_any (n lo hi : Int) (w : World) :
    Calls Tryz.prog 21 #[.int .i64 n, .int .i64 lo, .int .i64 hi] w fun e w' => e = .returned (.bool (decide (lo ≤ n) && decide (n ≤ hi))) ∧ w' = w := by
  by_cases h : lo ≤ n
  · by_cases h' : n ≤ hi
    · rw [decide_eq_true h, decide_eq_true h']
      go_enter Tryz.func21, Tryz.ntmps21
      go_wp2
      go_ret
      exact ⟨rfl, rfl⟩
    · rw [decide_eq_true h, decide_eq_false h']
      go_enter Tryz.func21, Tryz.ntmps21
      go_wp2
      go_ret
      exact ⟨rfl, rfl⟩
  · rw [decide_eq_false h]
    go_enter Tryz.func21, Tryz.ntmps21
    go_wp2
    go_ret
    exact ⟨rfl, rfl⟩

/-- May a be raised to n? -/
def powOk (a : ByteArray) (n : Int) : Bool := goodB a.data.toList && (decide (0 ≤ n) && decide (n ≤ 2000))

theorem Tells.big {n m : Nat} {e : Ending} (h : Tells n e) (hn : ¬ n < 10 ^ 600) (hm : ¬ m < 10 ^ 600) : Tells m e := by
  obtain ⟨s, rfl, h1, h2⟩ := h
  have := h2 hn
  subst this
  exact ⟨⟨#[]⟩, by rw [decide_eq_false hn, decide_eq_false hm], fun h => absurd h hm, fun _ => rfl⟩

theorem pow_zero_of {A j N : Nat} (h : A ^ j = 0) (hj : j ≤ N) : A ^ N = 0 := by
  have hA : A = 0 ∧ j ≠ 0 := by
    by_cases hA : A = 0
    · refine ⟨hA, fun e => ?_⟩
      subst e; simp at h
    · have := Nat.pow_pos (n := j) (Nat.pos_of_ne_zero hA); omega
  obtain ⟨rfl, hj0⟩ := hA
  exact Nat.zero_pow (by omega)

theorem pow_big_of {A j N : Nat} (B : Nat) (hB : 1 < B) (h : ¬ A ^ j < B) (hj : j ≤ N) : ¬ A ^ N < B := by
  by_cases hA : A = 0
  · subst hA
    by_cases e : j = 0
    · subst e
      simp only [Nat.pow_zero] at h
      by_cases e' : N = 0
      · subst e'; simpa using h
      · omega
    · rw [Nat.zero_pow (by omega)] at h; omega
  · have := Nat.pow_le_pow_right (Nat.pos_of_ne_zero hA) hj
    omega

theorem one_lt_ten (k : Nat) (hk : k ≠ 0) : 1 < 10 ^ k := Nat.one_lt_pow hk (by decide)

theorem pow_tells {A j N : Nat} {e : Ending} (hT : Tells (A ^ j) e) (hj : j ≤ N) (h : j = N ∨ A ^ j = 0 ∨ ¬ A ^ j < 10 ^ 600 ∨ A = 1) : Tells (A ^ N) e := by
  rcases h with rfl | h | h | rfl
  · exact hT
  · rw [pow_zero_of h hj]; rw [h] at hT; exact hT
  · by_cases hA : ¬ A ^ N < 10 ^ 600
    · exact hT.big h hA
    · exact absurd (Decidable.not_not.1 hA) (pow_big_of _ (one_lt_ten 600 (by decide)) h hj)
  · simpa using hT

end Go.Proofs.YtkhabnficogbjaaGreatDoor

/-
  What a symbol is: plain facts, and what is told of a byte and of a text's bytes.
-/
namespace Go.Proofs.YtkhabnficogbjaaGreatDoor
open Go.RowKit
set_option linter.unusedVariables false

/-- The signs that may stand in a symbol. -/
def marks : List UInt8 := [33, 36, 37, 38, 42, 47, 58, 60, 61, 62, 63, 94, 95, 126, 43, 45, 46, 64]
def letB (n : Nat) : Bool := ((decide (97 ≤ n) && decide (n ≤ 122)) || (decide (65 ≤ n) && decide (n ≤ 90))) || (decide (48 ≤ n) && decide (n ≤ 57))
def symB (c : UInt8) : Bool := letB c.toNat || marks.contains c
theorem letB_yes {n : Nat} (h : (97 ≤ n ∧ n ≤ 122) ∨ (65 ≤ n ∧ n ≤ 90) ∨ (48 ≤ n ∧ n ≤ 57)) : letB n = true := by
  unfold letB; simp; omega
theorem letB_no {n : Nat} (h : ¬ ((97 ≤ n ∧ n ≤ 122) ∨ (65 ≤ n ∧ n ≤ 90) ∨ (48 ≤ n ∧ n ≤ 57))) : letB n = false := by
  unfold letB; simp; omega
theorem sym_yes {c : UInt8} (h : letB c.toNat = true) : symB c = true := by unfold symB; rw [h]; rfl
theorem sym_no {c : UInt8} (h : letB c.toNat = false) : symB c = marks.contains c := by unfold symB; rw [h]; rfl

theorem index_marks (c : UInt8) : decide (0 ≤ Lib.indexByte marks c) = marks.contains c := by
  by_cases h : 0 ≤ Lib.indexByte marks c
  · obtain ⟨i, hi⟩ : ∃ i : Nat, Lib.indexByte marks c = (i : Int) := ⟨(Lib.indexByte marks c).toNat, by omega⟩
    obtain ⟨h1, _⟩ := Lib.indexByte_some hi
    rw [decide_eq_true h]
    symm
    rw [List.contains_iff_mem]
    exact List.mem_of_getElem? h1
  · have hge := Lib.indexByte_ge marks c
    have h1 : Lib.indexByte marks c = -1 := by omega
    have h2 := Lib.indexByte_none h1
    rw [decide_eq_false h]
    symm
    rw [Bool.eq_false_iff]
    intro hc
    rw [List.contains_iff_mem] at hc
    obtain ⟨i, hi⟩ := List.getElem?_of_mem hc
    exact h2 i hi

set_option maxHeartbeats 1000000 in
set_option maxRecDepth 100000 in
theorem inSymbol_any (c : UInt8) (x : Int) (w : World) (hx : x = (c.toNat : Int)) :
    Calls Tryz.prog 92 #[.int .u8 x] w fun e w' => e = .returned (.bool (symB c)) ∧ w' = w := by
  have HX := hideT' hx
  have hlt : x ≤ 255 := by have := c.toNat_lt; omega
  have h0 : 0 ≤ x := by omega
  cases hl : letB c.toNat with
  | true =>
    have HS := hideT' (sym_yes hl)
    have hr : (97 ≤ x ∧ x ≤ 122) ∨ (65 ≤ x ∧ x ≤ 90) ∨ (48 ≤ x ∧ x ≤ 57) := by
      unfold letB at hl; simp at hl; omega
    clear hl hx
    rcases hr with ⟨h1, h2⟩ | ⟨h1, h2⟩ | ⟨h1, h2⟩
    · go_enter Tryz.func92, Tryz.ntmps92
      go_wp2
      go_ret
      exact ⟨by rw [HS.out]; rfl, rfl⟩
    · have h3 : ¬ 97 ≤ x := by omega
      go_enter Tryz.func92, Tryz.ntmps92
      go_wp2
      go_ret
      exact ⟨by rw [HS.out]; rfl, rfl⟩
    · have h3 : ¬ 97 ≤ x := by omega
      have h4 : ¬ 65 ≤ x := by omega
      go_enter Tryz.func92, Tryz.ntmps92
      go_wp2
      go_ret
      exact ⟨by rw [HS.out]; rfl, rfl⟩
  | false =>
    have HS := hideT' (sym_no hl)
    have hr : (122 < x) ∨ (x < 97 ∧ 90 < x) ∨ (x < 65 ∧ 57 < x) ∨ x < 48 := by
      unfold letB at hl; simp at hl; omega
    have hc : x.toNat.toUInt8 = c := by rw [hx, Int.toNat_natCast]; exact UInt8.ofNat_toNat
    obtain ⟨y, hy⟩ : ∃ y, y = Lib.indexByte marks c := ⟨_, rfl⟩
    have HI : Hid (decide (0 ≤ y) = symB c) := by unfold Hid; rw [HS.out, hy]; exact index_marks c
    have HC : Hid (∀ e : Ending, e = .returned (.int .i64 (Lib.indexByte marks x.toNat.toUInt8)) → e = .returned (.int .i64 y)) := fun e he => by rw [he, hc, hy]
    clear hl hx hc hy HS
    (
      rcases hr with h1 | ⟨h1, h2⟩ | ⟨h1, h2⟩ | h1
      · have g1 : 97 ≤ x := by omega
        have g2 : ¬ x ≤ 122 := by omega
        have g3 : 65 ≤ x := by omega
        have g4 : ¬ x ≤ 90 := by omega
        have g5 : 48 ≤ x := by omega
        have g6 : ¬ x ≤ 57 := by omega
        go_enter Tryz.func92, Tryz.ntmps92
        go_wp2_with fail
        refine (Tryz.strings_IndexByte _ x _).mono ?_
        rintro e w' ⟨he, rfl⟩
        obtain rfl := HC.out e he
        go_wp2
        go_ret
        exact ⟨by rw [← HI.out]; rfl, rfl⟩
      · have g1 : ¬ 97 ≤ x := by omega
        have g3 : 65 ≤ x := by omega
        have g4 : ¬ x ≤ 90 := by omega
        have g5 : 48 ≤ x := by omega
        have g6 : ¬ x ≤ 57 := by omega
        go_enter Tryz.func92, Tryz.ntmps92
        go_wp2_with fail
        refine (Tryz.strings_IndexByte _ x _).mono ?_
        rintro e w' ⟨he, rfl⟩
        obtain rfl := HC.out e he
        go_wp2
        go_ret
        exact ⟨by rw [← HI.out]; rfl, rfl⟩
      · have g1 : ¬ 97 ≤ x := by omega
        have g3 : ¬ 65 ≤ x := by omega
        have g5 : 48 ≤ x := by omega
        have g6 : ¬ x ≤ 57 := by omega
        go_enter Tryz.func92, Tryz.ntmps92
        go_wp2_with fail
        refine (Tryz.strings_IndexByte _ x _).mono ?_
        rintro e w' ⟨he, rfl⟩
        obtain rfl := HC.out e he
        go_wp2
        go_ret
        exact ⟨by rw [← HI.out]; rfl, rfl⟩
      · have g1 : ¬ 97 ≤ x := by omega
        have g3 : ¬ 65 ≤ x := by omega
        have g5 : ¬ 48 ≤ x := by omega
        go_enter Tryz.func92, Tryz.ntmps92
        go_wp2_with fail
        refine (Tryz.strings_IndexByte _ x _).mono ?_
        rintro e w' ⟨he, rfl⟩
        obtain rfl := HC.out e he
        go_wp2
        go_ret
        exact ⟨by rw [← HI.out]; rfl, rfl⟩)

theorem marks_get (k : Nat) (h : k < 18) (h' : k < (⟨#[33, 36, 37, 38, 42, 47, 58, 60, 61, 62, 63, 94, 95, 126, 43, 45, 46, 64]⟩ : ByteArray).size) : (⟨#[33, 36, 37, 38, 42, 47, 58, 60, 61, 62, 63, 94, 95, 126, 43, 45, 46, 64]⟩ : ByteArray)[k] = marks[k]'h := rfl

set_option maxHeartbeats 1000000 in
set_option maxRecDepth 100000 in
theorem l3SymbolByte_any (c : UInt8) (x : Int) (w : World) (hx : x = (c.toNat : Int)) :
    Calls Tryz.prog 42 #[.int .u8 x] w fun e w' => e = .returned (.bool (symB c)) ∧ w' = w := by
  have HX := hideT' hx
  have hlt : x ≤ 255 := by have := c.toNat_lt; omega
  have h0 : 0 ≤ x := by omega
  cases hl : letB c.toNat with
  | true =>
    have HS := hideT' (sym_yes hl)
    have hr : (97 ≤ x ∧ x ≤ 122) ∨ (65 ≤ x ∧ x ≤ 90) ∨ (48 ≤ x ∧ x ≤ 57) := by
      unfold letB at hl; simp at hl; omega
    clear hl hx
    rcases hr with ⟨h1, h2⟩ | ⟨h1, h2⟩ | ⟨h1, h2⟩
    · go_enter Tryz.func42, Tryz.ntmps42
      go_wp2
      go_ret
      exact ⟨by rw [HS.out]; rfl, rfl⟩
    · have h3 : ¬ 97 ≤ x := by omega
      go_enter Tryz.func42, Tryz.ntmps42
      go_wp2
      go_ret
      exact ⟨by rw [HS.out]; rfl, rfl⟩
    · have h3 : ¬ 97 ≤ x := by omega
      have h4 : ¬ 65 ≤ x := by omega
      go_enter Tryz.func42, Tryz.ntmps42
      go_wp2
      go_ret
      exact ⟨by rw [HS.out]; rfl, rfl⟩
  | false =>
    have HS := hideT' (sym_no hl)
    have hr : (122 < x) ∨ (x < 97 ∧ 90 < x) ∨ (x < 65 ∧ 57 < x) ∨ x < 48 := by
      unfold letB at hl; simp at hl; omega
    clear hl hx
    go_enter Tryz.func42, Tryz.ntmps42
    go_upto_region 1 with fail
    go_cut [25] (fun x wx => x = .bool false ∧ wx = w)
    case first =>
      rcases hr with h1 | ⟨h1, h2⟩ | ⟨h1, h2⟩ | h1
      · have g1 : 97 ≤ x := by omega
        have g2 : ¬ x ≤ 122 := by omega
        have g3 : 65 ≤ x := by omega
        have g4 : ¬ x ≤ 90 := by omega
        have g5 : 48 ≤ x := by omega
        have g6 : ¬ x ≤ 57 := by omega
        go_wp2
        go_meet
        case rel => exact ⟨rfl, rfl⟩
      · have g1 : ¬ 97 ≤ x := by omega
        have g3 : 65 ≤ x := by omega
        have g4 : ¬ x ≤ 90 := by omega
        have g5 : 48 ≤ x := by omega
        have g6 : ¬ x ≤ 57 := by omega
        go_wp2
        go_meet
        case rel => exact ⟨rfl, rfl⟩
      · have g1 : ¬ 97 ≤ x := by omega
        have g3 : ¬ 65 ≤ x := by omega
        have g5 : 48 ≤ x := by omega
        have g6 : ¬ x ≤ 57 := by omega
        go_wp2
        go_meet
        case rel => exact ⟨rfl, rfl⟩
      · have g1 : ¬ 97 ≤ x := by omega
        have g3 : ¬ 65 ≤ x := by omega
        have g5 : ¬ 48 ≤ x := by omega
        go_wp2
        go_meet
        case rel => exact ⟨rfl, rfl⟩
    case rest =>
      obtain ⟨rfl, rfl⟩ := hcut
      clear hr
      go_wp2_with fail
      go_loopg [3] 18 (fun g i wr => ∃ k : Nat, g = 18 - k ∧ k ≤ 18 ∧ i = .int .i64 (k : Int) ∧ Hid (∀ j, j < k → marks[j]? ≠ some c) ∧ wr = wc)
      case atStart => exact ⟨0, rfl, by omega, rfl, fun j hj => by omega, rfl⟩
      case round =>
        obtain ⟨k, hg, hk, rfl, HK, rfl⟩ := hrel
        by_cases hk18 : (k : Int) < 18
        · have hk' : k < 18 := by omega
          have hsz : k < (⟨#[33, 36, 37, 38, 42, 47, 58, 60, 61, 62, 63, 94, 95, 126, 43, 45, 46, 64]⟩ : ByteArray).size := hk'
          by_cases hc : marks[k]'hk' = c
          · have hb : ((((⟨#[33, 36, 37, 38, 42, 47, 58, 60, 61, 62, 63, 94, 95, 126, 43, 45, 46, 64]⟩ : ByteArray)[k]'hsz).toNat : Int) == x) = true := by rw [marks_get k hk' hsz, hc, HX.out]; exact beq_self_eq_true _
            have HY : Hid (symB c = true) := by
              unfold Hid
              rw [HS.out, List.contains_iff_mem, ← hc]
              exact List.getElem_mem _
            clear hc
            go_wp2
            go_ret
            exact ⟨by rw [HY.out]; rfl, rfl⟩
          · have hb : ((((⟨#[33, 36, 37, 38, 42, 47, 58, 60, 61, 62, 63, 94, 95, 126, 43, 45, 46, 64]⟩ : ByteArray)[k]'hsz).toNat : Int) == x) = false := by
              rw [marks_get k hk' hsz, beq_eq_false_iff_ne, HX.out]
              intro e
              exact hc (UInt8.toNat_inj.1 (by omega))
            have HK2 : Hid (∀ j, j < k + 1 → marks[j]? ≠ some c) := by
              intro j hj
              by_cases e : j = k
              · subst e; rw [List.getElem?_eq_getElem hk']; intro h; exact hc (by injection h)
              · exact HK.out j (by omega)
            clear hc
            go_wp2
            go_roundg (18 - (k + 1))
            case measure => omega
            case rel => exact ⟨k + 1, rfl, by omega, by go_num, HK2, rfl⟩
        · have HN : Hid (symB c = false) := by
            unfold Hid
            rw [HS.out, Bool.eq_false_iff]
            intro hc
            rw [List.contains_iff_mem] at hc
            obtain ⟨i, hi⟩ := List.getElem?_of_mem hc
            have h18 : i < 18 := by have := (List.getElem?_eq_some_iff.1 hi).1; simpa [marks] using this
            exact HK.out i (by omega) hi
          go_wp2
          go_ret
          exact ⟨by rw [HN.out]; rfl, rfl⟩

/-- A symbol, if it is no number. -/
def symT (l : List UInt8) : Bool := (decide (1 ≤ l.length) && decide (l.length ≤ 30)) && (!(l == [46]) && l.all symB)
/-- Is it a number as ReadNum reads it? -/
def numF (l : List UInt8) : Bool := rdOkN l && (decide (rval (rdRad l) (rdTop l) / Nat.gcd (rval (rdRad l) (rdTop l)) (rval (rdRad l) (rdBot l)) < 10 ^ 600) && decide (rval (rdRad l) (rdBot l) / Nat.gcd (rval (rdRad l) (rdTop l)) (rval (rdRad l) (rdBot l)) < 10 ^ 600))
theorem ReadAns.flag {s : ByteArray} {e : Ending} (h : ReadAns s e) : ∃ t : ByteArray, e = .returned (.tuple #[.string t, .bool (numF s.data.toList)]) := by
  rcases h with ⟨g1, t, rfl, _, _⟩ | ⟨g1, h⟩
  · exact ⟨t, by unfold numF; rw [g1, Bool.true_and]⟩
  · exact ⟨⟨#[]⟩, by unfold numF; rw [g1, Bool.false_and]; exact h⟩
def symOk (l : List UInt8) : Bool := symT l && !numF l

theorem sym_bad {s : ByteArray} (k : Nat) (h : k < s.size) (hb : symB s[k] = false) : s.data.toList.all symB = false := by
  rw [List.all_eq_false]
  exact ⟨s.data.toList[k]'(by simpa using h), List.getElem_mem _, by show ¬ symB s[k] = true; rw [hb]; decide⟩
theorem sym_all {s : ByteArray} (h : ∀ (k : Nat) (hk : k < s.size), symB (s[k]'hk) = true) : s.data.toList.all symB = true := by
  rw [List.all_eq_true]
  intro c hc
  obtain ⟨i, hi, rfl⟩ := List.getElem_of_mem hc
  exact h i (by simpa using hi)

set_option maxHeartbeats 1000000 in
set_option maxRecDepth 100000 in
theorem symbolOrNum_any (s : ByteArray) (w : World) (hs : s.size ≤ maxLen) :
    Calls Tryz.prog 63 #[.string s] w fun e w' => e = .returned (.bool (symT s.data.toList)) ∧ w' = w := by
  unfold maxLen at hs
  have hlen : s.data.toList.length = s.size := by simp
  by_cases h1 : (s.size : Int) < 1
  · have HN : Hid (symT s.data.toList = false) := by unfold Hid symT; rw [hlen, decide_eq_false (show ¬ 1 ≤ s.size by omega)]; rfl
    clear hlen
    go_enter Tryz.func63, Tryz.ntmps63
    go_wp2
    go_ret
    exact ⟨by rw [HN.out]; rfl, rfl⟩
  · by_cases h2 : (30 : Int) < (s.size : Int)
    · have HN : Hid (symT s.data.toList = false) := by unfold Hid symT; rw [hlen, decide_eq_false (show ¬ s.size ≤ 30 by omega), Bool.and_false]; rfl
      clear hlen
      go_enter Tryz.func63, Tryz.ntmps63
      go_wp2
      go_ret
      exact ⟨by rw [HN.out]; rfl, rfl⟩
    · by_cases h3 : s.data.toList = [46]
      · have hd := str_eq h3
        have HN : Hid (symT s.data.toList = false) := by unfold Hid; rw [h3]; rfl
        clear hlen h3
        go_enter Tryz.func63, Tryz.ntmps63
        go_wp2
        go_ret
        exact ⟨by rw [HN.out]; rfl, rfl⟩
      · have hd := str_ne h3
        have HA : Hid (symT s.data.toList = s.data.toList.all symB) := by
          unfold Hid symT
          rw [hlen, decide_eq_true (show 1 ≤ s.size by omega), decide_eq_true (show s.size ≤ 30 by omega), beq_eq_false_iff_ne.2 h3]; simp
        clear hlen h3
        go_enter Tryz.func63, Tryz.ntmps63
        go_wp2_with fail
        go_loopg [18] s.size (fun g i wr => ∃ k : Nat, g = s.size - k ∧ k ≤ s.size ∧ i = .int .i64 (k : Int) ∧ Hid (∀ (j : Nat) (hj : j < s.size), j < k → symB (s[j]'hj) = true) ∧ wr = w)
        case atStart => exact ⟨0, rfl, by omega, rfl, fun j _ hj => by omega, rfl⟩
        case round =>
          obtain ⟨k, hg, hk, rfl, HK, rfl⟩ := hrel
          by_cases hk1 : (k : Int) < (s.size : Int)
          · have hk' : k < s.size := by omega
            go_wp2_with fail
            refine (inSymbol_any (s[k]'hk') _ _ rfl).mono ?_
            rintro e w' ⟨rfl, rfl⟩
            cases hb : symB (s[k]'hk') with
            | true =>
              have HK2 : Hid (∀ (j : Nat) (hj : j < s.size), j < k + 1 → symB (s[j]'hj) = true) := by
                intro j hj hj2
                by_cases e : j = k
                · subst e; exact hb
                · exact HK.out j hj (by omega)
              clear hb
              go_wp2
              go_roundg (s.size - (k + 1))
              case measure => omega
              case rel => exact ⟨k + 1, rfl, by omega, by go_num, HK2, rfl⟩
            | false =>
              have HN : Hid (symT s.data.toList = false) := by unfold Hid; rw [HA.out]; exact sym_bad k hk' hb
              clear hb
              go_wp2
              go_ret
              exact ⟨by rw [HN.out]; rfl, rfl⟩
          · have HN : Hid (symT s.data.toList = true) := by unfold Hid; rw [HA.out]; exact sym_all (fun j hj => HK.out j hj (by omega))
            go_wp2
            go_ret
            exact ⟨by rw [HN.out]; rfl, rfl⟩

set_option maxHeartbeats 1000000 in
set_option maxRecDepth 100000 in
theorem implGoodSymbol_any (s : ByteArray) (w : World) (hs : s.size ≤ maxLen) (hT : Tab w.heap.size w) :
    Calls Tryz.prog 45 #[.string s] w fun e w' => e = .returned (.bool (symOk s.data.toList)) ∧ Below w.heap.size w w' := by
  have HT : Hid (Tab w.heap.size w) := hT
  clear hT
  go_enter Tryz.func45, Tryz.ntmps45
  go_wp2_with fail
  refine (symbolOrNum_any s _ hs).mono ?_
  rintro e w' ⟨rfl, rfl⟩
  cases hb : symT s.data.toList with
  | false =>
    have HN : Hid (symOk s.data.toList = false) := by unfold Hid symOk; rw [hb]; rfl
    clear hb
    go_wp2
    go_ret
    exact ⟨by rw [HN.out]; rfl, Below.refl _ _⟩
  | true =>
    have HN : Hid (symOk s.data.toList = !numF s.data.toList) := by unfold Hid symOk; rw [hb]; rfl
    clear hb
    go_wp2_with fail
    refine (implReadNum_any s _ hs HT.out).mono ?_
    rintro e w2 ⟨hA, hW⟩
    obtain ⟨t, rfl⟩ := hA.flag
    obtain ⟨o, ho⟩ : ∃ o, o = numF s.data.toList := ⟨_, rfl⟩
    rw [← ho] at HN ⊢
    clear hA ho
    go_wp2
    go_ret
    exact ⟨by rw [HN.out]; rfl, hW⟩

set_option maxHeartbeats 1000000 in
set_option maxRecDepth 100000 in
theorem l3Symbol_any (s : ByteArray) (w : World) (hs : s.size ≤ maxLen) :
    Calls Tryz.prog 25 #[.string s] w fun e w' => e = .returned (.bool (symOk s.data.toList)) ∧ Below w.heap.size w w' := by
  have hs' := hs
  unfold maxLen at hs
  go_enter Tryz.func25, Tryz.ntmps25
  go_wp2_with fail
  go_loopg [3] s.size (fun g i wr => ∃ k : Nat, g = s.size - k ∧ k ≤ s.size ∧ i = .int .i64 (k : Int) ∧ Hid (∀ (j : Nat) (hj : j < s.size), j < k → symB (s[j]'hj) = true) ∧ wr = w)
  case atStart => exact ⟨0, rfl, by omega, rfl, fun j _ hj => by omega, rfl⟩
  case round =>
    obtain ⟨k, hg, hk, rfl, HK, rfl⟩ := hrel
    by_cases hk1 : (k : Int) < (s.size : Int)
    · have hk' : k < s.size := by omega
      go_wp2_with fail
      refine (l3SymbolByte_any (s[k]'hk') _ _ rfl).mono ?_
      rintro e w' ⟨rfl, rfl⟩
      cases hb : symB (s[k]'hk') with
      | true =>
        have HK2 : Hid (∀ (j : Nat) (hj : j < s.size), j < k + 1 → symB (s[j]'hj) = true) := by
          intro j hj hj2
          by_cases e : j = k
          · subst e; exact hb
          · exact HK.out j hj (by omega)
        clear hb
        go_wp2
        go_roundg (s.size - (k + 1))
        case measure => omega
        case rel => exact ⟨k + 1, rfl, by omega, by go_num, HK2, rfl⟩
      | false =>
        have HN : Hid (symOk s.data.toList = false) := by
          unfold Hid symOk symT; rw [sym_bad k hk' hb]; simp
        clear hb
        go_wp2
        go_ret
        exact ⟨by rw [HN.out]; rfl, Below.refl _ _⟩
    · have HA := hideT' (sym_all (fun j hj => HK.out j hj (by omega)))
      go_wp2_with fail
      refine (l2Read_any s _ hs').mono ?_
      rintro e w2 ⟨hA, hW⟩
      obtain ⟨t, rfl⟩ := hA.flag
      obtain ⟨o, ho⟩ : ∃ o, o = numF s.data.toList := ⟨_, rfl⟩
      rw [← ho]
      have HN : Hid (symOk s.data.toList = ((decide (1 ≤ (s.size : Int)) && decide ((s.size : Int) ≤ 30)) && !(s.data.toList == [46]) && !o)) := by
        unfold Hid symOk symT
        have hlen : s.data.toList.length = s.size := by simp
        rw [HA.out, ← ho, hlen, Bool.and_true]
        have e1 : decide (1 ≤ s.size) = decide (1 ≤ (s.size : Int)) := decide_eq_decide.2 (by omega)
        have e2 : decide (s.size ≤ 30) = decide ((s.size : Int) ≤ 30) := decide_eq_decide.2 (by omega)
        rw [e1, e2]
      clear hA ho
      go_wp2_with fail
      refine (l1In_any (s.size : Int) 1 30 _).mono ?_
      rintro e w3 ⟨rfl, rfl⟩
      cases h1 : (decide (1 ≤ (s.size : Int)) && decide ((s.size : Int) ≤ 30)) with
      | false =>
        rw [h1] at HN
        clear h1
        go_wp2
        go_ret
        exact ⟨by rw [HN.out]; rfl, hW⟩
      | true =>
        rw [h1] at HN
        clear h1
        cases h3 : (s.data.toList == [46]) with
        | true =>
          rw [h3] at HN
          have hd : (s.toList == [46]) = true := by rw [ByteArray.toList_eq]; exact h3
          clear h3
          go_wp2
          go_ret
          exact ⟨by rw [HN.out]; rfl, hW⟩
        | false =>
          rw [h3] at HN
          have hd : (s.toList == [46]) = false := by rw [ByteArray.toList_eq]; exact h3
          clear h3
          go_wp2
          go_ret
          exact ⟨by rw [HN.out]; rfl, hW⟩

end Go.Proofs.YtkhabnficogbjaaGreatDoor

/-
  What readNum of impl is made of.
-/
namespace Go.Proofs.YtkhabnficogbjaaGreatDoor
open Go.RowKit
set_option linter.unusedVariables false

/-- What readNum should hand back. -/
def ReadN (l : List UInt8) (e : Ending) : Prop := ∃ (g : Bool) (k j : Nat) (p q : List Int), e = .returned (.tuple #[.agg (numC g k p j q), .bool (okN l)]) ∧ p.length = 204 ∧ q.length = 204 ∧ (okN l = true → g = negN l ∧ Rep (topN l) k p ∧ Rep (botN l) j q ∧ k ≤ 100 ∧ j ≤ 100 ∧ j ≠ 0)

theorem built_num0 : Tryz.prog.built 85 [] = some (numC false 0 zP 0 zP) := by kernel_rfl
theorem build_num0 {ops : Array Oper} {rest : List Oper} {o : Oper} {a : Act} {w : World} {Q : Exit → Act → World → Prop} (hg : o.guard = none) (ho : o.op = .build 85 #[]) (d : Option Tmp) (hd : o.dst = d)
    (h : wpList Tryz.prog ops Q rest (a.put d (.agg (numC false 0 zP 0 zP))) w) : wpList Tryz.prog ops Q (o :: rest) a w :=
  wpList_buildTo hg 85 #[] ho d hd (numC false 0 zP 0 zP) (by simpa using built_num0) h
theorem res_num_tmp {fn : Func} {x u : Tmp} (h : fn.results = #[.cell x 85, .tmp u]) (tmps : Array Value) (w : World) (b : Nat) (g : Bool) (n : Int) (p : List Int) (m : Int) (q : List Int) (v : Value)
    (hp : tmps.getD x undef = .pointer (some ⟨b, 0, none⟩)) (hv : tmps.getD u undef = v) (hN : NumAt w b g n p m q) (hl : p.length = 204) (hm : q.length = 204) : (results fn tmps).run Tryz.prog w = .ok (.tuple #[.agg (numC g n p m q), v]) w := by
  rw [results_cell_tmp h, hp, hv]
  simp only [asAddr, Sem.run_pure, Result.andThen, run_loadVar_row w b 85 85 (numC g n p m q) (0, 0) _ hN Tryz.underlying85 rfl (num_info g n p m q hl hm)]

theorem run_bw {o : Oper} {a : Act} {w : World} (x y : Operand) (ho : o.op = .build 83 #[(0, x), (1, y)]) (g : Bool) (u : Int) (p : List Int) (hp : p.length = 204) (hx : a.eval x = .bool g) (hy : a.eval y = .agg (natC u p)) :
    (execOp a.eval o).run Tryz.prog w = .ok (.value (.agg (wholeC g u p))) w := by
  have e : (Array.map (fun (i, x) => (i, a.eval x)) #[(0, x), (1, y)]).toList = [(0, a.eval x), (1, a.eval y)] := by simp
  have h := run_build w 83 (Array.map (fun (i, x) => (i, a.eval x)) #[(0, x), (1, y)]) (wholeC g u p) (by rw [e, hx, hy]; exact built_whole g u p hp)
  unfold execOp
  simp only [ho, Sem.run_bind, h, Result.andThen_ok]
  rfl
theorem run_bn {o : Oper} {a : Act} {w : World} (x y : Operand) (ho : o.op = .build 85 #[(0, x), (1, y)]) (g : Bool) (u : Int) (p : List Int) (v : Int) (q : List Int) (hp : p.length = 204) (hq : q.length = 204) (hx : a.eval x = .agg (wholeC g u p)) (hy : a.eval y = .agg (natC v q)) :
    (execOp a.eval o).run Tryz.prog w = .ok (.value (.agg (numC g u p v q))) w := by
  have e : (Array.map (fun (i, x) => (i, a.eval x)) #[(0, x), (1, y)]).toList = [(0, a.eval x), (1, a.eval y)] := by simp
  have h := run_build w 85 (Array.map (fun (i, x) => (i, a.eval x)) #[(0, x), (1, y)]) (numC g u p v q) (by rw [e, hx, hy]; exact built_num g u p v q hp hq)
  unfold execOp
  simp only [ho, Sem.run_bind, h, Result.andThen_ok]
  rfl
theorem run_mv {o : Oper} {a : Act} {w : World} (x : Operand) (ho : o.op = .move x) (v : Value) (hx : a.eval x = v) : (execOp a.eval o).run Tryz.prog w = .ok (.value v) w := by
  unfold execOp
  simp only [ho, hx]
  rfl
/-- The one operation that may come up: a fraction is written whole. -/
theorem held_store_num {ops : Array Oper} {Q : Exit → Act → World → Prop} {md : Region.Mode} {S : World → Prop} {o : Oper} {fuel : Nat} {listed : Array Bool} {a : Act} {w : World} (i : Nat) (hr : Region.ready md ops listed = [i]) (hi : ops[i]? = some o) (hw : Region.wanted o (yielded ops a.tmps) = true) (x y : Operand) (ho : o.op = .store 85 x y) (hd : o.dst = none)
    (b : Nat) (g : Bool) (u : Int) (p : List Int) (v : Int) (q : List Int) (hx : a.eval x = .pointer (some ⟨b, 0, none⟩)) (hy : a.eval y = .agg (numC g u p v q)) (g0 : Bool) (u0 : Int) (p0 : List Int) (v0 : Int) (q0 : List Int) (hN : NumAt w b g0 u0 p0 v0 q0) (h0 : p0.length = 204) (h0' : q0.length = 204) (hl : p.length = 204) (hm : q.length = 204)
    (h : ∀ w', NumAt w' b g u p v q → w.grownBy w' (some b) → w'.heap.size = w.heap.size → S w' ∧ wpAnyH Tryz.prog md ops Q S fuel (listed.setIfInBounds i true) a w') : wpAnyH Tryz.prog md ops Q S (fuel + 1) listed a w := by
  refine wpAnyH_ready hr (by simp) (AllReadyH.cons hi (fun K hK => ?_) AllReadyH.nil)
  rw [if_pos hw]
  refine wp_store_row 85 x y ho b (numC g u p v q) hx hy 85 (numC g0 u0 p0 v0 q0) hN (num_info g u p v q hl hm) (by rw [numC_size, numC_size, h0, hl, h0', hm]) (numC_one _ _ _ _ _) ?_
  rw [hd]
  have := h _ (setRow_heap w b _ _ _ _ hN) ⟨rfl, rfl, rfl, by simp, fun k _ hne => setRow_other w b k _ (by intro e; exact hne (by rw [e]))⟩ (by simp)
  exact hK.out _ _ this.1 (fun _ => this.2)
/-- One of two operations that may come up, a call. -/
theorem ready_call {ops : Array Oper} {Q : Exit → Act → World → Prop} {md : Region.Mode} {S : World → Prop} {o : Oper} {fuel : Nat} {listed : Array Bool} {a : Act} {w : World} {rs : List Nat} (i : Nat) (d : Option Tmp) (hi : ops[i]? = some o) (hw : Region.wanted o (yielded ops a.tmps) = true) (hd : o.dst = d) (f : FuncId) (args : Array Value)
    (he : (execOp a.eval o).run Tryz.prog w = .ok (.enter f args) w) (R : Ending → World → Prop) (hc : Calls Tryz.prog f args w R)
    (h : ∀ e w', R e w' → ∃ v, e = .returned v ∧ S w' ∧ wpAnyH Tryz.prog md ops Q S fuel (listed.setIfInBounds i true) (a.put d v) w') (hs : AllReadyH Tryz.prog md ops Q S fuel listed a w rs) : AllReadyH Tryz.prog md ops Q S fuel listed a w (i :: rs) := by
  subst hd
  refine AllReadyH.cons hi (fun K hK => ?_) hs
  rw [if_pos hw]
  unfold Oper.wp
  rw [he]
  simp only [Oper.upon]
  refine hc.mono ?_
  intro e w' hR
  obtain ⟨v, rfl, hS, hn⟩ := h e w' hR
  exact hK.out _ _ hS (fun _ => hn)
/-- One of the operations that may come up gives a value and changes the world. -/
theorem ready_val {ops : Array Oper} {Q : Exit → Act → World → Prop} {md : Region.Mode} {S : World → Prop} {o : Oper} {fuel : Nat} {listed : Array Bool} {a : Act} {w : World} {rs : List Nat} (i : Nat) (d : Option Tmp) (hi : ops[i]? = some o) (hw : Region.wanted o (yielded ops a.tmps) = true) (hd : o.dst = d) (v : Value) (w' : World)
    (he : (execOp a.eval o).run Tryz.prog w = .ok (.value v) w') (hS : S w') (h : wpAnyH Tryz.prog md ops Q S fuel (listed.setIfInBounds i true) (a.put d v) w') (hs : AllReadyH Tryz.prog md ops Q S fuel listed a w rs) : AllReadyH Tryz.prog md ops Q S fuel listed a w (i :: rs) := by
  subst hd
  refine AllReadyH.cons hi (fun K hK => ?_) hs
  rw [if_pos hw]
  unfold Oper.wp
  rw [he]
  exact hK.out _ _ hS (fun _ => h)


theorem put_ne (a : Act) (i j : Nat) (v : Value) (h : i ≠ j) : (a.put (some i) v).eval (.tmp j) = a.eval (.tmp j) := by
  simp [Act.put, Act.eval, Array.getD_eq_getD_getElem?, Array.getElem?_setIfInBounds_ne h]
theorem put_eq (a : Act) (i : Nat) (v : Value) (h : i < a.tmps.size) : (a.put (some i) v).eval (.tmp i) = v := by
  simp [Act.put, Act.eval, Array.getD_eq_getD_getElem?, h]
theorem put_size (a : Act) (i : Nat) (v : Value) : (a.put (some i) v).tmps.size = a.tmps.size := by simp [Act.put]
theorem put_comm (a : Act) (i j : Nat) (u v : Value) (h : i ≠ j) : (a.put (some i) u).put (some j) v = (a.put (some j) v).put (some i) u := by
  simp only [Act.put]
  congr 1
  exact Array.setIfInBounds_comm u v h

/-- A fraction is made of a whole number and 1, in either order of the call and the new variable. -/
theorem region_make {id : Nat} {Q : Exit → Act → World → Prop} {a : Act} {w4 : World} (ps : String) (g : Bool) (k : Nat) (p : List Int) (hp : p.length = 204) (B3 BR : Nat) (hx : a.eval (.tmp 4) = .bool g) (hy : a.eval (.tmp 8) = .pointer (some ⟨B3, 0, none⟩)) (hsz : 43 ≤ a.tmps.size)
    (hz2 : ∀ w, (zeroValue 85).run Tryz.prog w = .ok (.agg (numC false 0 zP 0 zP)) w) (hN4 : NatAt w4 B3 k p) (A4 : NumAt w4 BR false 0 zP 0 zP)
    (h : ∀ (b0 i : Nat) (r : List Int) (w7 : World), NumAt w7 b0 g k p i r → NatAt w7 B3 k p → NumAt w7 BR false 0 zP 0 zP → Rep 1 i r → w4.heap.size ≤ b0 → b0 < w7.heap.size → Below w4.heap.size w4 w7 →
      Q .normal ((((((a.put (some 38) (.bool g)).put (some 39) (.agg (natC k p))).put (some 40) (.agg (wholeC g k p))).put (some 41) (.agg (natC i r))).put (some 42) (.agg (numC g k p i r))).put (some 10) (.pointer (some ⟨b0, 0, none⟩))) w7) :
    (Code.region id #[{ dst := some 38, op := Op.move (Operand.tmp 4), type := 4, pos := ps, after := #[], guard := none }, { dst := some 39, op := Op.load 81 (Operand.tmp 8), type := 81, pos := ps, after := #[], guard := none }, { dst := some 40, op := Op.build 83 #[(0, Operand.tmp 38), (1, Operand.tmp 39)], type := 83, pos := ps, after := #[{ on := 0, ground := Ground.data }, { on := 1, ground := Ground.data }], guard := none }, { dst := some 41, op := Op.call { callee := Callee.value (Operand.func 88), args := #[Operand.const (Value.int IntKind.i64 1)], argTypes := #[3] }, type := 81, pos := ps, after := #[], guard := none }, { dst := some 42, op := Op.build 85 #[(0, Operand.tmp 40), (1, Operand.tmp 41)], type := 85, pos := ps, after := #[{ on := 2, ground := Ground.data }, { on := 3, ground := Ground.data }], guard := none }, { dst := some 10, op := Op.alloc 85, type := 0, pos := ps, after := #[], guard := none }, { dst := none, op := Op.store 85 (Operand.tmp 10) (Operand.tmp 42), type := 0, pos := ps, after := #[{ on := 5, ground := Ground.data }, { on := 4, ground := Ground.data }, { on := 3, ground := Ground.chain }, { on := 0, ground := Ground.phase }, { on := 1, ground := Ground.phase }, { on := 2, ground := Ground.phase }, { on := 3, ground := Ground.phase }, { on := 4, ground := Ground.phase }, { on := 5, ground := Ground.phase }], guard := none }] true).wp Tryz.prog Q a w4 := by
  have l3 := hN4.lt
  have lR := RowAt.lt A4
  refine held_begin (fun w' => NatAt w' B3 k p ∧ NumAt w' BR false 0 zP 0 zP) (by kernel_rfl) ?_
  have hS : NatAt w4.drew B3 k p ∧ NumAt w4.drew BR false 0 zP 0 zP := ⟨hN4, A4⟩
  refine held_val 0 (some 38) rfl rfl (by kernel_rfl) (by kernel_rfl) (by kernel_rfl) noPanic_put rfl (.bool g) (fun _ => run_mv (.tmp 4) rfl _ hx) hS ?_
  refine held_load 1 (some 39) rfl rfl (by kernel_rfl) (by kernel_rfl) (by kernel_rfl) noPanic_put rfl _ rfl B3 (by rw [put_ne _ _ _ _ (by decide)]; exact hy) k p (fun _ h => h.1) hp hS ?_
  refine held_val 2 (some 40) rfl rfl (by kernel_rfl) (by kernel_rfl) (by kernel_rfl) noPanic_put rfl (.agg (wholeC g k p)) (fun _ => run_bw (.tmp 38) (.tmp 39) rfl g k p hp (by rw [put_ne _ _ _ _ (by decide), put_eq _ _ _ (by omega)]) (by rw [put_eq _ _ _ (by rw [put_size]; omega)])) hS ?_
  refine wpAnyH_ready (rs := [3, 5]) (by kernel_rfl) (by simp) ?_
  refine ready_call 3 (some 41) rfl rfl rfl 88 #[.int .i64 1] (by go_simp) _ (natOf_any 1 1 w4.drew rfl (by omega) (by omega)) ?_ (ready_val 5 (some 10) rfl rfl rfl (.pointer (some ⟨w4.heap.size, 0, none⟩)) (w4.drew.alloc (.cells (numC false 0 zP 0 zP) 85)) (by go_simp) ?_ ?_ AllReadyH.nil)
  · rintro e w5 ⟨i, r, rfl, hR, hW5⟩
    have hW5 : Below w4.heap.size w4 w5 := ⟨hW5.os, hW5.tape, hW5.output, hW5.size, hW5.block⟩
    have hr := hR.len
    have hs5 := hW5.size
    have hS5 : NatAt w5 B3 k p ∧ NumAt w5 BR false 0 zP 0 zP := ⟨hN4.below hW5 (by omega), RowAt.below A4 hW5 (by omega)⟩
    refine ⟨_, rfl, hS5, ?_⟩
    refine held_val 4 (some 42) rfl rfl (by kernel_rfl) (by kernel_rfl) (by kernel_rfl) noPanic_put rfl (.agg (numC g k p i r)) (fun _ => run_bn (.tmp 40) (.tmp 41) rfl g k p i r hp hr (by rw [put_ne _ _ _ _ (by decide), put_eq _ _ _ (by simp only [put_size]; omega)]) (by rw [put_eq _ _ _ (by simp only [put_size]; omega)])) hS5 ?_
    refine wpAnyH_ready (rs := [5]) (by kernel_rfl) (by simp) ?_
    have hS6 : NatAt (w5.alloc (.cells (numC false 0 zP 0 zP) 85)) B3 k p ∧ NumAt (w5.alloc (.cells (numC false 0 zP 0 zP) 85)) BR false 0 zP 0 zP := ⟨hS5.1.old _, RowAt.old hS5.2 _⟩
    refine ready_val 5 (some 10) rfl rfl rfl (.pointer (some ⟨w5.heap.size, 0, none⟩)) (w5.alloc (.cells (numC false 0 zP 0 zP) 85)) (by go_simp) hS6 ?_ AllReadyH.nil
    refine held_store_num 6 (by kernel_rfl) rfl rfl (.tmp 10) (.tmp 42) rfl rfl w5.heap.size g k p i r (by rw [put_eq _ _ _ (by simp only [put_size]; omega)]) (by rw [put_ne _ _ _ _ (by decide), put_eq _ _ _ (by simp only [put_size]; omega)]) false 0 zP 0 zP (NumAt.new w5 false 0 zP 0 zP) zP_len zP_len hp hr ?_
    intro w7 hN7 hg7 hs7
    have N7 : NatAt w7 B3 k p := hS6.1.grown hg7 (by simp; omega)
    have A7 : NumAt w7 BR false 0 zP 0 zP := RowAt.grown hS6.2 hg7 (by simp; omega)
    refine ⟨⟨N7, A7⟩, ?_⟩
    refine wpAnyH_done (by kernel_rfl) ?_ _
    refine NoPanic.normal ?_
    exact h w5.heap.size i r w7 hN7 N7 A7 hR hs5 (by rw [hs7]; simp) ((hW5.alloc hs5 _).grown hg7 (by simp; omega) (by intro k hk; cases hk; omega))
  · exact ⟨hN4.old _, RowAt.old A4 _⟩
  · have hS5 : NatAt (w4.drew.alloc (.cells (numC false 0 zP 0 zP) 85)) B3 k p ∧ NumAt (w4.drew.alloc (.cells (numC false 0 zP 0 zP) 85)) BR false 0 zP 0 zP := ⟨hN4.old _, RowAt.old A4 _⟩
    have M5 : NumAt (w4.drew.alloc (.cells (numC false 0 zP 0 zP) 85)) w4.heap.size false 0 zP 0 zP := NumAt.new w4.drew false 0 zP 0 zP
    refine held_call 3 (some 41) (by kernel_rfl) rfl rfl rfl 88 #[.int .i64 1] (by go_simp) _ (natOf_any 1 1 _ rfl (by omega) (by omega)) ?_
    rintro e w6 ⟨i, r, rfl, hR, hW6⟩
    have hr := hR.len
    have hs6 := hW6.size
    have hsz' : (w4.drew.alloc (.cells (numC false 0 zP 0 zP) 85)).heap.size = w4.heap.size + 1 := by simp
    have hS6 : NatAt w6 B3 k p ∧ NumAt w6 BR false 0 zP 0 zP := ⟨hS5.1.below hW6 (by omega), RowAt.below hS5.2 hW6 (by omega)⟩
    have M6 : NumAt w6 w4.heap.size false 0 zP 0 zP := RowAt.below M5 hW6 (by omega)
    have hB6 : Below w4.heap.size w4 w6 := (((Below.refl w4.heap.size w4).drew).alloc (Nat.le_refl _) _).trans (hW6.mono (by omega))
    refine ⟨_, rfl, hS6, ?_⟩
    refine held_val 4 (some 42) rfl rfl (by kernel_rfl) (by kernel_rfl) (by kernel_rfl) noPanic_put rfl (.agg (numC g k p i r)) (fun _ => run_bn (.tmp 40) (.tmp 41) rfl g k p i r hp hr (by rw [put_ne _ _ _ _ (by decide), put_ne _ _ _ _ (by decide), put_eq _ _ _ (by simp only [put_size]; omega)]) (by rw [put_eq _ _ _ (by simp only [put_size]; omega)])) hS6 ?_
    refine held_store_num 6 (by kernel_rfl) rfl rfl (.tmp 10) (.tmp 42) rfl rfl w4.heap.size g k p i r (by rw [put_ne _ _ _ _ (by decide), put_ne _ _ _ _ (by decide), put_eq _ _ _ (by simp only [put_size]; omega)]) (by rw [put_eq _ _ _ (by simp only [put_size]; omega)]) false 0 zP 0 zP M6 zP_len zP_len hp hr ?_
    intro w7 hN7 hg7 hs7
    have N7 : NatAt w7 B3 k p := hS6.1.grown hg7 (by simp; omega)
    have A7 : NumAt w7 BR false 0 zP 0 zP := RowAt.grown hS6.2 hg7 (by simp; omega)
    refine ⟨⟨N7, A7⟩, ?_⟩
    refine wpAnyH_done (by kernel_rfl) ?_ _
    refine NoPanic.normal ?_
    have := h w4.heap.size i r w7 hN7 N7 A7 hR (Nat.le_refl _) (by omega) (hB6.grown hg7 (by omega) (by intro k hk; cases hk; omega))
    rw [put_comm _ 42 10 _ _ (by decide), put_comm _ 41 10 _ _ (by decide)] at this
    exact this
end Go.Proofs.YtkhabnficogbjaaGreatDoor

/-
  What readNum of impl answers.
-/
namespace Go.Proofs.YtkhabnficogbjaaGreatDoor
open Go.RowKit
set_option linter.unusedVariables false

theorem one_lt' (k : Nat) (hk : k ≠ 0) : 1 < 10 ^ k := Nat.one_lt_pow hk (by decide)
theorem good_lt' {l : List UInt8} (h : goodB l = true) : dval l < 10 ^ 600 := (canon_len_le (good_canon h) 600 (by omega)).1 (good_len h)

set_option maxHeartbeats 6000000 in
set_option maxRecDepth 100000 in
theorem readNum_any (s : ByteArray) (w : World) (hs : s.size ≤ maxLen) :
    Calls Tryz.prog 62 #[.string s] w fun e w' => ReadN s.data.toList e ∧ Below w.heap.size w w' := by
  have hz := zero_nat.1
  have hz1 := zero_whole.1
  have hz2 := zero_num.1
  have A := NumAt.new w false 0 zP 0 zP
  have hB : Below w.heap.size w (w.alloc (.cells (numC false 0 zP 0 zP) 85)) := (Below.refl _ _).alloc (Nat.le_refl _) _
  go_enter Tryz.func62, Tryz.ntmps62
  go_wp2_with fail
  refine (cutPrefix_any s _ hs).mono ?_
  rintro e w1 ⟨t, rfl, ht, rfl⟩
  have hts : t.size ≤ maxLen := by
    have h1 : t.data.toList.length = t.size := by simp
    have h2 : s.data.toList.length = s.size := by simp
    have : (bodyN s.data.toList).length ≤ s.data.toList.length := by unfold bodyN; split <;> simp
    rw [← ht] at this; omega
  have HTT := hide ht
  clear ht
  go_wp2_with fail
  refine (cut_any t _ hts).mono ?_
  rintro e w2 ⟨o, u, rfl, ho, hu, hW2⟩
  rw [HTT.out] at ho hu ⊢
  have hcs := cut_size (bodyN s.data.toList)
  have hos : o.size ≤ maxLen := by
    have h1 : o.data.toList.length = o.size := by simp
    have h2 : t.data.toList.length = t.size := by simp
    rw [HTT.out] at h2
    rw [ho] at h1; omega
  have hus : u.size ≤ maxLen := by
    have h1 : u.data.toList.length = u.size := by simp
    have h2 : t.data.toList.length = t.size := by simp
    rw [HTT.out] at h2
    rw [hu] at h1; omega
  have HO : Hid (o.data.toList = overN s.data.toList ∧ u.data.toList = underN s.data.toList) := ⟨ho, hu⟩
  obtain ⟨bk, hbk⟩ : ∃ bk, bk = (cut47 (bodyN s.data.toList)).2.2 := ⟨_, rfl⟩
  rw [← hbk]
  have HBK : Hid (bk = brokenN s.data.toList) := hbk
  obtain ⟨ng, hng⟩ : ∃ ng, ng = negN s.data.toList := ⟨_, rfl⟩
  rw [← hng]
  have HNG := hide hng
  have A2 : NumAt w2 w.heap.size false 0 zP 0 zP := A.below hW2 (by simp)
  have hB2 : Below w.heap.size w w2 := hB.trans (hW2.mono (by simp))
  have hs2 := hW2.size
  simp only [World.size_alloc] at hs2
  clear ho hu hcs hbk hng A hB hW2 HTT
  go_wp2_with fail
  refine (readNat_any o _ hos).mono ?_
  rintro e w3 ⟨k, p, oa, rfl, hRa, hW3⟩
  have hp := hRa.len
  have hs3 := hW3.size
  have A3 : NumAt w3 w.heap.size false 0 zP 0 zP := A2.below hW3 (by omega)
  have hB3 : Below w.heap.size w w3 := hB2.trans (hW3.mono (by omega))
  have F := NatAt.new w3 0 zP
  clear A2 hB2 hW3
  -- no number
  have NO : Hid (okN s.data.toList = false → ReadN s.data.toList (.returned (.tuple #[.agg (numC false 0 zP 0 zP), .bool false]))) := fun h => ⟨false, 0, 0, zP, zP, by rw [h]; rfl, zP_len, zP_len, fun h' => by rw [h] at h'; cases h'⟩
  have hok : oa = goodB (overN s.data.toList) := by rw [← HO.out.1]; exact hRa.ok
  cases hg : oa with
  | false =>
    subst hg
    have HN : Hid (okN s.data.toList = false) := by unfold Hid okN; rw [← hok]; rfl
    clear hok hRa
    go_wp2_with (first | (refine store_nat rfl _ _ rfl rfl w3.heap.size k p rfl rfl 0 zP F zP_len hp ?_; intro w4 hN4 hg4 hs4; have c0 := hN4.c0; have A4 : NumAt w4 w.heap.size false 0 zP 0 zP := (RowAt.old A3 (.cells (natC 0 zP) 81)).grown hg4 (by first | (simp; done) | (simp; omega))) | (refine build_num0 rfl rfl _ rfl ?_) | (refine store_num rfl _ _ rfl rfl w.heap.size false 0 zP 0 zP rfl rfl false 0 zP 0 zP A4 zP_len zP_len zP_len zP_len ?_; intro w5 hN5 hg5 hs5))
    refine bodyPost_ret (v := .tuple #[.agg (numC false 0 zP 0 zP), .bool false]) (res_num_tmp Tryz.results62 _ _ w.heap.size _ _ _ _ _ _ rfl rfl hN5 zP_len zP_len) rfl ⟨NO.out HN.out, ?_⟩
    exact ((hB3.alloc (by omega) _).grown hg4 (by first | (simp; done) | (simp; omega)) (by intro k hk; cases hk; omega)).grown hg5 (by rw [hs4]; simp; omega) (by intro k hk; cases hk; omega)
  | true =>
    subst hg
    have hgo : goodB o.data.toList = true := by rw [HO.out.1]; exact hok.symm
    have ra : Rep (topN s.data.toList) k p := by unfold topN; rw [← HO.out.1]; exact hRa.rep hgo
    have hk : k ≤ 100 := by
      have h1 : topN s.data.toList < 10 ^ 600 := by unfold topN; rw [← HO.out.1]; exact good_lt' hgo
      exact ra.fits.2 h1
    have RA := hide ra
    have HGO : Hid (goodB (overN s.data.toList) = true) := hok.symm
    clear hok hRa hgo ra
    by_cases hbad : ng = true ∧ k = 0
    · have HN : Hid (okN s.data.toList = false) := by
        unfold Hid okN
        have h0 : dval (overN s.data.toList) = 0 := RA.out.zero_iff.1 hbad.2
        rw [HGO.out, ← HNG.out, hbad.1, h0]; rfl
      obtain ⟨h1, h2⟩ := hbad
      have h2' : ((k : Int) == 0) = true := by simp [h2]
      subst h1
      clear h2
      go_wp2_with (first | (refine store_nat rfl _ _ rfl rfl w3.heap.size k p rfl rfl 0 zP F zP_len hp ?_; intro w4 hN4 hg4 hs4; have c0 := hN4.c0; have A4 : NumAt w4 w.heap.size false 0 zP 0 zP := (RowAt.old A3 (.cells (natC 0 zP) 81)).grown hg4 (by first | (simp; done) | (simp; omega))) | (refine build_num0 rfl rfl _ rfl ?_) | (refine store_num rfl _ _ rfl rfl w.heap.size false 0 zP 0 zP rfl rfl false 0 zP 0 zP A4 zP_len zP_len zP_len zP_len ?_; intro w5 hN5 hg5 hs5))
      refine bodyPost_ret (v := .tuple #[.agg (numC false 0 zP 0 zP), .bool false]) (res_num_tmp Tryz.results62 _ _ w.heap.size _ _ _ _ _ _ rfl rfl hN5 zP_len zP_len) rfl ⟨NO.out HN.out, ?_⟩
      exact ((hB3.alloc (by omega) _).grown hg4 (by first | (simp; done) | (simp; omega)) (by intro k hk; cases hk; omega)).grown hg5 (by rw [hs4]; simp; omega) (by intro k hk; cases hk; omega)
    · have HSG : Hid ((goodB (overN s.data.toList) && !(negN s.data.toList && decide (dval (overN s.data.toList) = 0))) = true) := by
        unfold Hid
        rw [HGO.out, ← HNG.out]
        cases ng with
        | false => rfl
        | true =>
          have : dval (overN s.data.toList) ≠ 0 := fun e => hbad ⟨rfl, RA.out.zero_iff.2 e⟩
          simp [this]
      have hbad' : ng = false ∨ ((k : Int) == 0) = false := by
        cases ng with
        | false => exact .inl rfl
        | true => right; rw [beq_eq_false_iff_ne]; intro e; exact hbad ⟨rfl, by omega⟩
      clear hbad
      cases ng with
      | false =>
        clear hbad'
        go_wp2_with (refine store_nat rfl _ _ rfl rfl w3.heap.size k p rfl rfl 0 zP F zP_len hp ?_; intro w4 hN4 hg4 hs4; have c0 := hN4.c0)
        have hs4' : w4.heap.size = w3.heap.size + 1 := by rw [hs4]; simp
        have A4 : NumAt w4 w.heap.size false 0 zP 0 zP := (RowAt.old A3 (.cells (natC 0 zP) 81)).grown hg4 (by first | (simp; done) | (simp; omega))
        have hB4 : Below w.heap.size w w4 := (hB3.alloc (by omega) _).grown hg4 (by first | (simp; done) | (simp; omega)) (by intro k hk; cases hk; omega)
        clear A3 hB3 F hg4 hs4 c0
        refine region_make "l2_num.go:155" false k p hp w3.heap.size w.heap.size rfl rfl (by simp) hz2 hN4 A4 ?_
        intro b0 i r w7 hN7 N7 A7 hR hb0 hlt7 hW7
        have hr := hR.len
        have hB7 : Below w.heap.size w w7 := hB4.trans (hW7.mono hB4.size)
        have hb3 : w3.heap.size < b0 := by omega
        clear hN4 A4 hB4 hW7
        simp only [Act.put, List.setIfInBounds_toArray, List.set_cons_zero, List.set_cons_succ]
        have hi := (hR.fits.2 (one_lt' 600 (by decide)))
        have hi0 : i ≠ 0 := fun e => by have := hR.zero_iff.1 e; omega
        have HR1 := hide hR
        clear hR
        cases bk with
        | false =>
          have HN : Hid (okN s.data.toList = true) := by unfold Hid okN; rw [HSG.out, ← HBK.out]; rfl
          have HRD : Hid (ReadN s.data.toList (.returned (.tuple #[.agg (numC false k p i r), .bool true]))) := ⟨false, k, i, p, r, by rw [HN.out], hp, hr, fun _ => ⟨HNG.out, RA.out, by unfold botN; rw [← HBK.out]; exact HR1.out, hk, hi, hi0⟩⟩
          go_wp2_with (first | (refine load_num rfl _ rfl b0 rfl false k p i r hN7 hp hr ?_) | (refine store_num rfl _ _ rfl rfl w.heap.size false k p i r rfl rfl false 0 zP 0 zP A7 zP_len zP_len hp hr ?_; intro w8 hN8 hg8 hs8))
          refine bodyPost_ret (v := .tuple #[.agg (numC false k p i r), .bool true]) (res_num_tmp Tryz.results62 _ _ w.heap.size _ _ _ _ _ _ rfl rfl hN8 hp hr) rfl ⟨HRD.out, ?_⟩
          exact hB7.grown hg8 (by have := hB7.size; omega) (by intro k hk; cases hk; omega)
        | true =>
          go_wp2_with fail
          refine (readNat_any u _ hus).mono ?_
          rintro e w8 ⟨m, q, ob, rfl, hRb, hW8⟩
          have hq := hRb.len
          have hs8 := hW8.size
          have A8 : NumAt w8 w.heap.size false 0 zP 0 zP := A7.below hW8 (by omega)
          have N8 : NatAt w8 w3.heap.size k p := N7.below hW8 (by omega)
          have M8 : NumAt w8 b0 false k p i r := hN7.below hW8 hlt7
          have hB8 : Below w.heap.size w w8 := hB7.trans (hW8.mono hB7.size)
          clear A7 N7 hN7 hB7 hW8
          have hokb : ob = goodB (underN s.data.toList) := by rw [← HO.out.2]; exact hRb.ok
          cases hob : ob with
          | false =>
            subst hob
            have HN : Hid (okN s.data.toList = false) := by unfold Hid okN; rw [← HBK.out, ← hokb, HSG.out]; rfl
            clear hokb hRb
            go_wp2_with (first | (refine store_bottom rfl _ _ rfl rfl b0 m q rfl rfl false k p i r M8 hp hr hq ?_; intro w9 M9 hg9 hs9; have A9 : NumAt w9 w.heap.size false 0 zP 0 zP := RowAt.grown A8 hg9 (by simp; omega)) | (refine build_num0 rfl rfl _ rfl ?_) | (refine store_num rfl _ _ rfl rfl w.heap.size false 0 zP 0 zP rfl rfl false 0 zP 0 zP A9 zP_len zP_len zP_len zP_len ?_; intro wf hNf hgf hsf))
            refine bodyPost_ret (v := .tuple #[.agg (numC false 0 zP 0 zP), .bool false]) (res_num_tmp Tryz.results62 _ _ w.heap.size _ _ _ _ _ _ rfl rfl hNf zP_len zP_len) rfl ⟨NO.out HN.out, ?_⟩
            exact (hB8.grown hg9 (by have := hB8.size; omega) (by intro k hk; cases hk; omega)).grown hgf (by have := hB8.size; omega) (by intro k hk; cases hk; omega)
          | true =>
            subst hob
            have hgu : goodB u.data.toList = true := by rw [HO.out.2]; exact hokb.symm
            have rb : Rep (dval (underN s.data.toList)) m q := by rw [← HO.out.2]; exact hRb.rep hgu
            have hm : m ≤ 100 := by
              have h1 : dval (underN s.data.toList) < 10 ^ 600 := by rw [← HO.out.2]; exact good_lt' hgu
              exact rb.fits.2 h1
            have RB := hide rb
            have HGU : Hid (goodB (underN s.data.toList) = true) := hokb.symm
            clear hokb hRb hgu rb
            by_cases hm0 : m = 0
            · have HN : Hid (okN s.data.toList = false) := by
                unfold Hid okN; rw [← HBK.out, HGU.out, HSG.out, RB.out.zero_iff.1 hm0]; rfl
              have hm0' : ((m : Int) == 0) = true := by simp [hm0]
              clear hm0
              go_wp2_with (first | (refine store_bottom rfl _ _ rfl rfl b0 m q rfl rfl false k p i r M8 hp hr hq ?_; intro w9 M9 hg9 hs9; have A9 : NumAt w9 w.heap.size false 0 zP 0 zP := RowAt.grown A8 hg9 (by simp; omega); have c206 := M9.bused hp) | (refine build_num0 rfl rfl _ rfl ?_) | (refine store_num rfl _ _ rfl rfl w.heap.size false 0 zP 0 zP rfl rfl false 0 zP 0 zP A9 zP_len zP_len zP_len zP_len ?_; intro wf hNf hgf hsf))
              refine bodyPost_ret (v := .tuple #[.agg (numC false 0 zP 0 zP), .bool false]) (res_num_tmp Tryz.results62 _ _ w.heap.size _ _ _ _ _ _ rfl rfl hNf zP_len zP_len) rfl ⟨NO.out HN.out, ?_⟩
              exact (hB8.grown hg9 (by have := hB8.size; omega) (by intro k hk; cases hk; omega)).grown hgf (by have := hB8.size; omega) (by intro k hk; cases hk; omega)
            · have hm0' : ((m : Int) == 0) = false := by rw [beq_eq_false_iff_ne]; omega
              have HU0 : Hid (dval (underN s.data.toList) ≠ 0) := fun e => hm0 (RB.out.zero_iff.2 e)
              go_wp2_with (first | (refine store_bottom rfl _ _ rfl rfl b0 m q rfl rfl false k p i r M8 hp hr hq ?_; intro w9 M9 hg9 hs9; have c206 := M9.bused hp) | (refine load_num_w rfl _ rfl b0 rfl false k p m q M9 hp hq ?_))
              have A9 : NumAt w9 w.heap.size false 0 zP 0 zP := RowAt.grown A8 hg9 (by simp; omega)
              have N9 : NatAt w9 w3.heap.size k p := N8.grown hg9 (by simp; omega)
              have hB9 : Below w.heap.size w w9 := hB8.grown hg9 (by have := hB8.size; omega) (by intro k hk; cases hk; omega)
              have hlt9 := M9.lt
              have hltA := A9.lt
              have hltN := N9.lt
              clear A8 N8 M8 hB8 hg9 c206
              refine (isWhole_any (n := 0) false _ hp RB.out).mono ?_
              rintro e w10 ⟨rfl, hW10⟩
              have hs10 := hW10.size
              have A10 : NumAt w10 w.heap.size false 0 zP 0 zP := RowAt.below A9 hW10 hltA
              have N10 : NatAt w10 w3.heap.size k p := N9.below hW10 hltN
              have M10 : NumAt w10 b0 false k p m q := RowAt.below M9 hW10 hlt9
              have hB10 : Below w.heap.size w w10 := hB9.trans (hW10.mono hB9.size)
              clear A9 N9 M9 hB9 hW10
              by_cases hu1 : dval (underN s.data.toList) = 1
              · have HN : Hid (okN s.data.toList = false) := by
                  unfold Hid okN; rw [← HBK.out, HGU.out, HSG.out, hu1]; rfl
                rw [decide_eq_true hu1]
                clear hu1
                go_wp2_with (first | (refine build_num0 rfl rfl _ rfl ?_) | (refine store_num rfl _ _ rfl rfl w.heap.size false 0 zP 0 zP rfl rfl false 0 zP 0 zP A10 zP_len zP_len zP_len zP_len ?_; intro wf hNf hgf hsf))
                refine bodyPost_ret (v := .tuple #[.agg (numC false 0 zP 0 zP), .bool false]) (res_num_tmp Tryz.results62 _ _ w.heap.size _ _ _ _ _ _ rfl rfl hNf zP_len zP_len) rfl ⟨NO.out HN.out, ?_⟩
                exact hB10.grown hgf (by have := hB10.size; omega) (by intro k hk; cases hk; omega)
              · rw [decide_eq_false hu1]
                have HU1 := hide hu1
                clear hu1
                go_wp2_with (first | (refine load_nat_w rfl _ rfl w3.heap.size rfl k p N10 hp ?_) | (refine load_mid_w rfl _ rfl b0 206 rfl m q (M10.bottom hp) hq ?_))
                refine (gcd_any _ RA.out RB.out (by omega) (by omega)).mono ?_
                rintro e w11 ⟨c, cc, rfl, hRc, hW11⟩
                have hs11 := hW11.size
                have A11 : NumAt w11 w.heap.size false 0 zP 0 zP := RowAt.below A10 hW11 (by omega)
                have M11 : NumAt w11 b0 false k p m q := RowAt.below M10 hW11 (by omega)
                have hB11 : Below w.heap.size w w11 := hB10.trans (hW11.mono hB10.size)
                have HRc := hide hRc
                clear A10 N10 M10 hB10 hW11 hRc
                go_wp2_with fail
                refine (isOne_any _ HRc.out).mono ?_
                rintro e w12 ⟨rfl, hW12⟩
                have A12 : NumAt w12 w.heap.size false 0 zP 0 zP := RowAt.below A11 hW12 (by omega)
                have M12 : NumAt w12 b0 false k p m q := RowAt.below M11 hW12 (by omega)
                have hB12 : Below w.heap.size w w12 := hB11.trans (hW12.mono hB11.size)
                clear A11 M11 hB11 hW12
                by_cases hg1 : Nat.gcd (topN s.data.toList) (dval (underN s.data.toList)) = 1
                · rw [decide_eq_true hg1]
                  have HN : Hid (okN s.data.toList = true) := by
                    unfold Hid okN
                    rw [← HBK.out, HGU.out, HSG.out, decide_eq_true HU0.out, decide_eq_true HU1.out, decide_eq_true (show Nat.gcd (dval (overN s.data.toList)) (dval (underN s.data.toList)) = 1 from hg1)]; rfl
                  have HRD : Hid (ReadN s.data.toList (.returned (.tuple #[.agg (numC false k p m q), .bool true]))) := ⟨false, k, m, p, q, by rw [HN.out], hp, hq, fun _ => ⟨HNG.out, RA.out, by unfold botN; rw [← HBK.out]; exact RB.out, hk, hm, hm0⟩⟩
                  clear hg1
                  go_wp2_with (first | (refine load_num rfl _ rfl b0 rfl false k p m q M12 hp hq ?_) | (refine store_num rfl _ _ rfl rfl w.heap.size false k p m q rfl rfl false 0 zP 0 zP A12 zP_len zP_len hp hq ?_; intro wf hNf hgf hsf))
                  refine bodyPost_ret (v := .tuple #[.agg (numC false k p m q), .bool true]) (res_num_tmp Tryz.results62 _ _ w.heap.size _ _ _ _ _ _ rfl rfl hNf hp hq) rfl ⟨HRD.out, ?_⟩
                  exact hB12.grown hgf (by have := hB12.size; omega) (by intro k hk; cases hk; omega)
                · rw [decide_eq_false hg1]
                  have HN : Hid (okN s.data.toList = false) := by
                    unfold Hid okN
                    rw [← HBK.out, HGU.out, HSG.out, decide_eq_false (show ¬ Nat.gcd (dval (overN s.data.toList)) (dval (underN s.data.toList)) = 1 from hg1)]; simp
                  clear hg1
                  go_wp2_with (first | (refine build_num0 rfl rfl _ rfl ?_) | (refine store_num rfl _ _ rfl rfl w.heap.size false 0 zP 0 zP rfl rfl false 0 zP 0 zP A12 zP_len zP_len zP_len zP_len ?_; intro wf hNf hgf hsf))
                  refine bodyPost_ret (v := .tuple #[.agg (numC false 0 zP 0 zP), .bool false]) (res_num_tmp Tryz.results62 _ _ w.heap.size _ _ _ _ _ _ rfl rfl hNf zP_len zP_len) rfl ⟨NO.out HN.out, ?_⟩
                  exact hB12.grown hgf (by have := hB12.size; omega) (by intro k hk; cases hk; omega)
      | true =>
        have hb1 : ((k : Int) == 0) = false := hbad'.resolve_left (by decide)
        clear hbad'
        go_wp2_with (refine store_nat rfl _ _ rfl rfl w3.heap.size k p rfl rfl 0 zP F zP_len hp ?_; intro w4 hN4 hg4 hs4; have c0 := hN4.c0)
        have hs4' : w4.heap.size = w3.heap.size + 1 := by rw [hs4]; simp
        have A4 : NumAt w4 w.heap.size false 0 zP 0 zP := (RowAt.old A3 (.cells (natC 0 zP) 81)).grown hg4 (by first | (simp; done) | (simp; omega))
        have hB4 : Below w.heap.size w w4 := (hB3.alloc (by omega) _).grown hg4 (by first | (simp; done) | (simp; omega)) (by intro k hk; cases hk; omega)
        clear A3 hB3 F hg4 hs4 c0
        refine region_make "l2_num.go:155" true k p hp w3.heap.size w.heap.size rfl rfl (by simp) hz2 hN4 A4 ?_
        intro b0 i r w7 hN7 N7 A7 hR hb0 hlt7 hW7
        have hr := hR.len
        have hB7 : Below w.heap.size w w7 := hB4.trans (hW7.mono hB4.size)
        have hb3 : w3.heap.size < b0 := by omega
        clear hN4 A4 hB4 hW7
        simp only [Act.put, List.setIfInBounds_toArray, List.set_cons_zero, List.set_cons_succ]
        have hi := (hR.fits.2 (one_lt' 600 (by decide)))
        have hi0 : i ≠ 0 := fun e => by have := hR.zero_iff.1 e; omega
        have HR1 := hide hR
        clear hR
        cases bk with
        | false =>
          have HN : Hid (okN s.data.toList = true) := by unfold Hid okN; rw [HSG.out, ← HBK.out]; rfl
          have HRD : Hid (ReadN s.data.toList (.returned (.tuple #[.agg (numC true k p i r), .bool true]))) := ⟨true, k, i, p, r, by rw [HN.out], hp, hr, fun _ => ⟨HNG.out, RA.out, by unfold botN; rw [← HBK.out]; exact HR1.out, hk, hi, hi0⟩⟩
          go_wp2_with (first | (refine load_num rfl _ rfl b0 rfl true k p i r hN7 hp hr ?_) | (refine store_num rfl _ _ rfl rfl w.heap.size true k p i r rfl rfl false 0 zP 0 zP A7 zP_len zP_len hp hr ?_; intro w8 hN8 hg8 hs8))
          refine bodyPost_ret (v := .tuple #[.agg (numC true k p i r), .bool true]) (res_num_tmp Tryz.results62 _ _ w.heap.size _ _ _ _ _ _ rfl rfl hN8 hp hr) rfl ⟨HRD.out, ?_⟩
          exact hB7.grown hg8 (by have := hB7.size; omega) (by intro k hk; cases hk; omega)
        | true =>
          go_wp2_with fail
          refine (readNat_any u _ hus).mono ?_
          rintro e w8 ⟨m, q, ob, rfl, hRb, hW8⟩
          have hq := hRb.len
          have hs8 := hW8.size
          have A8 : NumAt w8 w.heap.size false 0 zP 0 zP := A7.below hW8 (by omega)
          have N8 : NatAt w8 w3.heap.size k p := N7.below hW8 (by omega)
          have M8 : NumAt w8 b0 true k p i r := hN7.below hW8 hlt7
          have hB8 : Below w.heap.size w w8 := hB7.trans (hW8.mono hB7.size)
          clear A7 N7 hN7 hB7 hW8
          have hokb : ob = goodB (underN s.data.toList) := by rw [← HO.out.2]; exact hRb.ok
          cases hob : ob with
          | false =>
            subst hob
            have HN : Hid (okN s.data.toList = false) := by unfold Hid okN; rw [← HBK.out, ← hokb, HSG.out]; rfl
            clear hokb hRb
            go_wp2_with (first | (refine store_bottom rfl _ _ rfl rfl b0 m q rfl rfl true k p i r M8 hp hr hq ?_; intro w9 M9 hg9 hs9; have A9 : NumAt w9 w.heap.size false 0 zP 0 zP := RowAt.grown A8 hg9 (by simp; omega)) | (refine build_num0 rfl rfl _ rfl ?_) | (refine store_num rfl _ _ rfl rfl w.heap.size false 0 zP 0 zP rfl rfl false 0 zP 0 zP A9 zP_len zP_len zP_len zP_len ?_; intro wf hNf hgf hsf))
            refine bodyPost_ret (v := .tuple #[.agg (numC false 0 zP 0 zP), .bool false]) (res_num_tmp Tryz.results62 _ _ w.heap.size _ _ _ _ _ _ rfl rfl hNf zP_len zP_len) rfl ⟨NO.out HN.out, ?_⟩
            exact (hB8.grown hg9 (by have := hB8.size; omega) (by intro k hk; cases hk; omega)).grown hgf (by have := hB8.size; omega) (by intro k hk; cases hk; omega)
          | true =>
            subst hob
            have hgu : goodB u.data.toList = true := by rw [HO.out.2]; exact hokb.symm
            have rb : Rep (dval (underN s.data.toList)) m q := by rw [← HO.out.2]; exact hRb.rep hgu
            have hm : m ≤ 100 := by
              have h1 : dval (underN s.data.toList) < 10 ^ 600 := by rw [← HO.out.2]; exact good_lt' hgu
              exact rb.fits.2 h1
            have RB := hide rb
            have HGU : Hid (goodB (underN s.data.toList) = true) := hokb.symm
            clear hokb hRb hgu rb
            by_cases hm0 : m = 0
            · have HN : Hid (okN s.data.toList = false) := by
                unfold Hid okN; rw [← HBK.out, HGU.out, HSG.out, RB.out.zero_iff.1 hm0]; rfl
              have hm0' : ((m : Int) == 0) = true := by simp [hm0]
              clear hm0
              go_wp2_with (first | (refine store_bottom rfl _ _ rfl rfl b0 m q rfl rfl true k p i r M8 hp hr hq ?_; intro w9 M9 hg9 hs9; have A9 : NumAt w9 w.heap.size false 0 zP 0 zP := RowAt.grown A8 hg9 (by simp; omega); have c206 := M9.bused hp) | (refine build_num0 rfl rfl _ rfl ?_) | (refine store_num rfl _ _ rfl rfl w.heap.size false 0 zP 0 zP rfl rfl false 0 zP 0 zP A9 zP_len zP_len zP_len zP_len ?_; intro wf hNf hgf hsf))
              refine bodyPost_ret (v := .tuple #[.agg (numC false 0 zP 0 zP), .bool false]) (res_num_tmp Tryz.results62 _ _ w.heap.size _ _ _ _ _ _ rfl rfl hNf zP_len zP_len) rfl ⟨NO.out HN.out, ?_⟩
              exact (hB8.grown hg9 (by have := hB8.size; omega) (by intro k hk; cases hk; omega)).grown hgf (by have := hB8.size; omega) (by intro k hk; cases hk; omega)
            · have hm0' : ((m : Int) == 0) = false := by rw [beq_eq_false_iff_ne]; omega
              have HU0 : Hid (dval (underN s.data.toList) ≠ 0) := fun e => hm0 (RB.out.zero_iff.2 e)
              go_wp2_with (first | (refine store_bottom rfl _ _ rfl rfl b0 m q rfl rfl true k p i r M8 hp hr hq ?_; intro w9 M9 hg9 hs9; have c206 := M9.bused hp) | (refine load_num_w rfl _ rfl b0 rfl true k p m q M9 hp hq ?_))
              have A9 : NumAt w9 w.heap.size false 0 zP 0 zP := RowAt.grown A8 hg9 (by simp; omega)
              have N9 : NatAt w9 w3.heap.size k p := N8.grown hg9 (by simp; omega)
              have hB9 : Below w.heap.size w w9 := hB8.grown hg9 (by have := hB8.size; omega) (by intro k hk; cases hk; omega)
              have hlt9 := M9.lt
              have hltA := A9.lt
              have hltN := N9.lt
              clear A8 N8 M8 hB8 hg9 c206
              refine (isWhole_any (n := 0) true _ hp RB.out).mono ?_
              rintro e w10 ⟨rfl, hW10⟩
              have hs10 := hW10.size
              have A10 : NumAt w10 w.heap.size false 0 zP 0 zP := RowAt.below A9 hW10 hltA
              have N10 : NatAt w10 w3.heap.size k p := N9.below hW10 hltN
              have M10 : NumAt w10 b0 true k p m q := RowAt.below M9 hW10 hlt9
              have hB10 : Below w.heap.size w w10 := hB9.trans (hW10.mono hB9.size)
              clear A9 N9 M9 hB9 hW10
              by_cases hu1 : dval (underN s.data.toList) = 1
              · have HN : Hid (okN s.data.toList = false) := by
                  unfold Hid okN; rw [← HBK.out, HGU.out, HSG.out, hu1]; rfl
                rw [decide_eq_true hu1]
                clear hu1
                go_wp2_with (first | (refine build_num0 rfl rfl _ rfl ?_) | (refine store_num rfl _ _ rfl rfl w.heap.size false 0 zP 0 zP rfl rfl false 0 zP 0 zP A10 zP_len zP_len zP_len zP_len ?_; intro wf hNf hgf hsf))
                refine bodyPost_ret (v := .tuple #[.agg (numC false 0 zP 0 zP), .bool false]) (res_num_tmp Tryz.results62 _ _ w.heap.size _ _ _ _ _ _ rfl rfl hNf zP_len zP_len) rfl ⟨NO.out HN.out, ?_⟩
                exact hB10.grown hgf (by have := hB10.size; omega) (by intro k hk; cases hk; omega)
              · rw [decide_eq_false hu1]
                have HU1 := hide hu1
                clear hu1
                go_wp2_with (first | (refine load_nat_w rfl _ rfl w3.heap.size rfl k p N10 hp ?_) | (refine load_mid_w rfl _ rfl b0 206 rfl m q (M10.bottom hp) hq ?_))
                refine (gcd_any _ RA.out RB.out (by omega) (by omega)).mono ?_
                rintro e w11 ⟨c, cc, rfl, hRc, hW11⟩
                have hs11 := hW11.size
                have A11 : NumAt w11 w.heap.size false 0 zP 0 zP := RowAt.below A10 hW11 (by omega)
                have M11 : NumAt w11 b0 true k p m q := RowAt.below M10 hW11 (by omega)
                have hB11 : Below w.heap.size w w11 := hB10.trans (hW11.mono hB10.size)
                have HRc := hide hRc
                clear A10 N10 M10 hB10 hW11 hRc
                go_wp2_with fail
                refine (isOne_any _ HRc.out).mono ?_
                rintro e w12 ⟨rfl, hW12⟩
                have A12 : NumAt w12 w.heap.size false 0 zP 0 zP := RowAt.below A11 hW12 (by omega)
                have M12 : NumAt w12 b0 true k p m q := RowAt.below M11 hW12 (by omega)
                have hB12 : Below w.heap.size w w12 := hB11.trans (hW12.mono hB11.size)
                clear A11 M11 hB11 hW12
                by_cases hg1 : Nat.gcd (topN s.data.toList) (dval (underN s.data.toList)) = 1
                · rw [decide_eq_true hg1]
                  have HN : Hid (okN s.data.toList = true) := by
                    unfold Hid okN
                    rw [← HBK.out, HGU.out, HSG.out, decide_eq_true HU0.out, decide_eq_true HU1.out, decide_eq_true (show Nat.gcd (dval (overN s.data.toList)) (dval (underN s.data.toList)) = 1 from hg1)]; rfl
                  have HRD : Hid (ReadN s.data.toList (.returned (.tuple #[.agg (numC true k p m q), .bool true]))) := ⟨true, k, m, p, q, by rw [HN.out], hp, hq, fun _ => ⟨HNG.out, RA.out, by unfold botN; rw [← HBK.out]; exact RB.out, hk, hm, hm0⟩⟩
                  clear hg1
                  go_wp2_with (first | (refine load_num rfl _ rfl b0 rfl true k p m q M12 hp hq ?_) | (refine store_num rfl _ _ rfl rfl w.heap.size true k p m q rfl rfl false 0 zP 0 zP A12 zP_len zP_len hp hq ?_; intro wf hNf hgf hsf))
                  refine bodyPost_ret (v := .tuple #[.agg (numC true k p m q), .bool true]) (res_num_tmp Tryz.results62 _ _ w.heap.size _ _ _ _ _ _ rfl rfl hNf hp hq) rfl ⟨HRD.out, ?_⟩
                  exact hB12.grown hgf (by have := hB12.size; omega) (by intro k hk; cases hk; omega)
                · rw [decide_eq_false hg1]
                  have HN : Hid (okN s.data.toList = false) := by
                    unfold Hid okN
                    rw [← HBK.out, HGU.out, HSG.out, decide_eq_false (show ¬ Nat.gcd (dval (overN s.data.toList)) (dval (underN s.data.toList)) = 1 from hg1)]; simp
                  clear hg1
                  go_wp2_with (first | (refine build_num0 rfl rfl _ rfl ?_) | (refine store_num rfl _ _ rfl rfl w.heap.size false 0 zP 0 zP rfl rfl false 0 zP 0 zP A12 zP_len zP_len zP_len zP_len ?_; intro wf hNf hgf hsf))
                  refine bodyPost_ret (v := .tuple #[.agg (numC false 0 zP 0 zP), .bool false]) (res_num_tmp Tryz.results62 _ _ w.heap.size _ _ _ _ _ _ rfl rfl hNf zP_len zP_len) rfl ⟨NO.out HN.out, ?_⟩
                  exact hB12.grown hgf (by have := hB12.size; omega) (by intro k hk; cases hk; omega)
end Go.Proofs.YtkhabnficogbjaaGreatDoor

/-
  What spec.GoodNum and impl.GoodNum answer.
-/
namespace Go.Proofs.YtkhabnficogbjaaGreatDoor
open Go.RowKit
set_option linter.unusedVariables false

set_option maxHeartbeats 400000 in
theorem specGoodNum_any (s : ByteArray) (w : World) (hs : s.size ≤ maxLen) :
    Calls Tryz.prog 24 #[.string s] w fun e w' => e = .returned (.bool (okN s.data.toList)) ∧ Below w.heap.size w w' := by
  go_enter Tryz.func24, Tryz.ntmps24
  go_wp2_with fail
  refine (l2Parts_any s _ hs).mono ?_
  rintro e w1 ⟨⟨g, t, u, rfl, _⟩, hW⟩
  obtain ⟨b, hb⟩ : ∃ b, b = okN s.data.toList := ⟨_, rfl⟩
  rw [← hb]
  have HB := hideT' hb
  clear hb
  go_wp2
  go_ret
  exact ⟨by rw [← HB.out]; rfl, hW⟩

set_option maxHeartbeats 400000 in
theorem implGoodNum_any (s : ByteArray) (w : World) (hs : s.size ≤ maxLen) :
    Calls Tryz.prog 44 #[.string s] w fun e w' => e = .returned (.bool (okN s.data.toList)) ∧ Below w.heap.size w w' := by
  have hz2 := zero_num.1
  go_enter Tryz.func44, Tryz.ntmps44
  go_wp2_with fail
  refine (readNum_any s _ hs).mono ?_
  rintro e w1 ⟨⟨g, k, j, p, q, rfl, hp, hq, _⟩, hW⟩
  obtain ⟨b, hb⟩ : ∃ b, b = okN s.data.toList := ⟨_, rfl⟩
  rw [← hb]
  have HB := hideT' hb
  clear hb
  have F := NumAt.new w1 false 0 zP 0 zP
  go_wp2_with (refine store_num rfl _ _ rfl rfl w1.heap.size g k p j q rfl rfl false 0 zP 0 zP F zP_len zP_len hp hq ?_; intro w2 hN2 hg2 hs2)
  go_ret
  refine ⟨by rw [← HB.out]; rfl, (hW.alloc hW.size _).grown hg2 (by have := hW.size; simp; omega) (by intro k hk; cases hk; exact hW.size)⟩
end Go.Proofs.YtkhabnficogbjaaGreatDoor

/-
  Data as a list of nodes: what good data are. Plain facts.
-/
namespace Go.Proofs.YtkhabnficogbjaaGreatDoor
set_option linter.unusedVariables false

/-- A node: its kind, its text, the list that it is in. -/
structure Dm where
  k : Int
  t : ByteArray
  u : Int
instance : Inhabited Dm := ⟨⟨0, ⟨#[]⟩, 0⟩⟩
def dk (l : List Dm) (i : Nat) : Int := (l.getD i default).k
def dt (l : List Dm) (i : Nat) : ByteArray := (l.getD i default).t
def du (l : List Dm) (i : Nat) : Int := (l.getD i default).u

def isL (k : Int) : Bool := decide (k = 5) || decide (k = 6)
/-- Bytes of a string. -/
def strC (c : UInt8) : Bool := (decide (32 ≤ c.toNat) && decide (c.toNat ≤ 126)) || decide (c.toNat = 10)
def strOk (l : List UInt8) : Bool := decide (l.length ≤ 100) && l.all strC
def txtOk (k : Int) (t : List UInt8) : Bool :=
  if k = 1 then okN t else if k = 2 then symOk t else if k = 3 then strOk t else if k = 4 then (t == [116]) || (t == [102]) else isL k && (t == [])

/-- Is t met on the way up from the node at? (f: more than at.) -/
def inChain (l : List Dm) : Nat → Int → Int → Bool
  | 0, _, _ => false
  | f + 1, at_, t => if at_ < 0 then false else if at_ = t then true else inChain l f (du l at_.toNat) t
/-- How many lists are met on the way up from the node at? -/
def dep (l : List Dm) : Nat → Int → Nat
  | 0, _ => 0
  | f + 1, at_ => if at_ < 0 then 0 else (if isL (dk l at_.toNat) then 1 else 0) + dep l f (du l at_.toNat)
def upOk (l : List Dm) (k : Nat) : Bool := decide (du l k = -1) || (inChain l k ((k : Int) - 1) (du l k) && isL (dk l (du l k).toNat))
def deepOk (l : List Dm) (k : Nat) : Bool := decide (dep l (k + 1) (k : Int) ≤ 25)
/-- The parts of the list k among the first n nodes. -/
def prt (l : List Dm) (n k : Nat) : List Nat := (List.range n).filter (fun i => decide (k < i) && decide (du l i = (k : Int)))
def lastL (l : List Dm) (q : List Nat) : Bool := match q.getLast? with | some i => isL (dk l i) | none => false
def dotOk (l : List Dm) (k : Nat) : Bool := !(decide (dk l k = 6)) || (decide (2 ≤ (prt l l.length k).length) && !lastL l (prt l l.length k))
def nodeOk (l : List Dm) (k : Nat) : Bool := (upOk l k && (txtOk (dk l k) (dt l k).data.toList && deepOk l k)) && dotOk l k
def goodAll (l : List Dm) : Bool := decide (l.length ≤ 300) && (List.range l.length).all (nodeOk l)

/-- All nodes ahead of k lead up. -/
def Up (l : List Dm) (k : Nat) : Prop := ∀ i, i < k → -1 ≤ du l i ∧ du l i < (i : Int)

theorem Up.mono {l : List Dm} {k j : Nat} (h : Up l k) (hj : j ≤ k) : Up l j := fun i hi => h i (by omega)

theorem chain_le (l : List Dm) : ∀ (f : Nat) (k : Nat) (a t : Int), Up l k → a < (k : Int) → inChain l f a t = true → 0 ≤ t ∧ t ≤ a
  | 0, k, a, t, hU, ha, h => by simp [inChain] at h
  | f + 1, k, a, t, hU, ha, h => by
    unfold inChain at h
    by_cases h0 : a < 0
    · rw [if_pos h0] at h; cases h
    · rw [if_neg h0] at h
      by_cases h1 : a = t
      · omega
      · rw [if_neg h1] at h
        have hu := hU a.toNat (by omega)
        have := chain_le l f k _ t hU (by omega) h
        omega

theorem upOk_up {l : List Dm} {k : Nat} (hU : Up l k) (h : upOk l k = true) : -1 ≤ du l k ∧ du l k < (k : Int) := by
  unfold upOk at h
  simp only [Bool.or_eq_true, Bool.and_eq_true, decide_eq_true_eq] at h
  rcases h with h | h
  · omega
  · have := chain_le l k k _ _ hU (by omega) h.1
    omega
theorem Up.succ {l : List Dm} {k : Nat} (hU : Up l k) (h : upOk l k = true) : Up l (k + 1) := fun i hi => by
  by_cases e : i = k
  · subst e; exact upOk_up hU h
  · exact hU i (by omega)
theorem upOk_list {l : List Dm} {k : Nat} (h : upOk l k = true) (h0 : 0 ≤ du l k) : isL (dk l (du l k).toNat) = true := by
  unfold upOk at h
  simp only [Bool.or_eq_true, Bool.and_eq_true, decide_eq_true_eq] at h
  rcases h with h | h
  · omega
  · exact h.2

theorem chain_step {l : List Dm} {f : Nat} {a t : Int} (h0 : 0 ≤ a) (h1 : a ≠ t) : inChain l (f + 1) a t = inChain l f (du l a.toNat) t := by
  rw [inChain, if_neg (by omega), if_neg h1]
theorem chain_hit {l : List Dm} {f : Nat} {a : Int} (h0 : 0 ≤ a) : inChain l (f + 1) a a = true := by
  rw [inChain, if_neg (by omega), if_pos rfl]
theorem chain_end {l : List Dm} {f : Nat} {a t : Int} (h0 : a < 0) : inChain l f a t = false := by
  cases f with
  | zero => rfl
  | succ f => rw [inChain, if_pos h0]
theorem dep_end {l : List Dm} {f : Nat} {a : Int} (h0 : a < 0) : dep l f a = 0 := by
  cases f with
  | zero => rfl
  | succ f => rw [dep, if_pos h0]
theorem dep_step {l : List Dm} {f : Nat} {a : Int} (h0 : 0 ≤ a) : dep l (f + 1) a = (if isL (dk l a.toNat) then 1 else 0) + dep l f (du l a.toNat) := by
  rw [dep, if_neg (by omega)]

/-- The fuel does not matter. -/
theorem dep_fuel (l : List Dm) : ∀ (f g : Nat) (k : Nat) (a : Int), Up l k → a < (k : Int) → a < (f : Int) → a < (g : Int) → dep l f a = dep l g a
  | 0, g, k, a, hU, hk, hf, hg => by rw [dep_end (by omega), dep_end (by omega)]
  | f + 1, 0, k, a, hU, hk, hf, hg => by rw [dep_end (by omega), dep_end (by omega)]
  | f + 1, g + 1, k, a, hU, hk, hf, hg => by
    by_cases h0 : a < 0
    · rw [dep_end h0, dep_end h0]
    · rw [dep_step (by omega), dep_step (by omega)]
      have hu := hU a.toNat (by omega)
      rw [dep_fuel l f g k _ hU (by omega) (by omega) (by omega)]

/-- How many lists are around the node k. -/
def arnd (l : List Dm) (k : Nat) : Nat := dep l k (du l k)
theorem deep_arnd {l : List Dm} {k : Nat} : dep l (k + 1) (k : Int) = (if isL (dk l k) then 1 else 0) + arnd l k := by
  rw [dep_step (by omega), Int.toNat_natCast]; rfl
theorem arnd_none {l : List Dm} {k : Nat} (h : du l k < 0) : arnd l k = 0 := dep_end h
theorem arnd_some {l : List Dm} {k j : Nat} (hU : Up l k) (hj : du l k = (j : Int)) (hjk : j < k) (hl : isL (dk l j) = true) : arnd l k = arnd l j + 1 := by
  unfold arnd
  obtain ⟨m, rfl⟩ : ∃ m, k = m + 1 := ⟨k - 1, by omega⟩
  rw [hj, dep_step (by omega), Int.toNat_natCast, if_pos hl]
  have hu := hU j hjk
  rw [dep_fuel l m j (m + 1) (du l j) hU (by omega) (by omega) (by omega)]
  omega

theorem node_bad {l : List Dm} {k : Nat} (hk : k < l.length) (h : nodeOk l k = false) : goodAll l = false := by
  unfold goodAll
  have : (List.range l.length).all (nodeOk l) = false := by
    rw [List.all_eq_false]
    exact ⟨k, List.mem_range.2 hk, by rw [h]; decide⟩
  rw [this, Bool.and_false]
theorem node_all {l : List Dm} (hn : l.length ≤ 300) (h : ∀ k, k < l.length → nodeOk l k = true) : goodAll l = true := by
  unfold goodAll
  rw [decide_eq_true hn, Bool.true_and, List.all_eq_true]
  intro k hk
  exact h k (List.mem_range.1 hk)
theorem node_upBad {l : List Dm} {k : Nat} (h : upOk l k = false) : nodeOk l k = false := by unfold nodeOk; rw [h]; rfl
theorem node_txtBad {l : List Dm} {k : Nat} (h : txtOk (dk l k) (dt l k).data.toList = false) : nodeOk l k = false := by unfold nodeOk; rw [h]; simp
theorem node_deepBad {l : List Dm} {k : Nat} (h : deepOk l k = false) : nodeOk l k = false := by unfold nodeOk; rw [h]; simp
theorem node_dotBad {l : List Dm} {k : Nat} (h : dotOk l k = false) : nodeOk l k = false := by unfold nodeOk; rw [h]; simp
theorem node_ok {l : List Dm} {k : Nat} (h1 : upOk l k = true) (h2 : txtOk (dk l k) (dt l k).data.toList = true) (h3 : deepOk l k = true) (h4 : dotOk l k = true) : nodeOk l k = true := by
  unfold nodeOk; rw [h1, h2, h3, h4]; rfl
theorem node_up {l : List Dm} {k : Nat} (h : nodeOk l k = true) : upOk l k = true := by
  unfold nodeOk at h; simp only [Bool.and_eq_true] at h; exact h.1.1

/-- One node more: it is a part of the list that it is in. -/
theorem prt_snoc (l : List Dm) (n k : Nat) : prt l (n + 1) k = prt l n k ++ (if k < n ∧ du l n = (k : Int) then [n] else []) := by
  unfold prt
  rw [List.range_succ, List.filter_append]
  congr 1
  by_cases h : k < n ∧ du l n = (k : Int)
  · rw [if_pos h]; simp [h.1, h.2]
  · rw [if_neg h]
    have : ¬ (k < n ∧ du l n = (k : Int)) := h
    simp only [List.filter_cons, List.filter_nil]
    rw [if_neg (by simpa using this)]
theorem lastL_snoc (l : List Dm) (q : List Nat) (n : Nat) : lastL l (q ++ [n]) = isL (dk l n) := by
  unfold lastL; simp
theorem prt_mem {l : List Dm} {n k i : Nat} (h : i ∈ prt l n k) : i < n := by
  unfold prt at h
  exact List.mem_range.1 (List.mem_filter.1 h).1
theorem prt_len (l : List Dm) (n k : Nat) : (prt l n k).length ≤ n := by
  unfold prt
  have := List.length_filter_le (fun i => decide (k < i) && decide (du l i = (k : Int))) (List.range n)
  simpa using this
theorem prt_low (l : List Dm) (k : Nat) : ∀ n, n ≤ k + 1 → prt l n k = []
  | 0, _ => rfl
  | n + 1, h => by rw [prt_snoc, prt_low l k n (by omega), if_neg (by omega)]; rfl
end Go.Proofs.YtkhabnficogbjaaGreatDoor

/-
  Data in memory: a row of nodes, three cells each.
-/
namespace Go.Proofs.YtkhabnficogbjaaGreatDoor
open Go.RowKit
set_option linter.unusedVariables false

def dmL (d : Dm) : List Value := [.int .i64 d.k, .string d.t, .int .i64 d.u]
def datC (l : List Dm) : Array Value := (l.flatMap dmL).toArray
def DatAt (w : World) (b : Nat) (l : List Dm) : Prop := RowAt w b 41 (datC l)
theorem flat_get : ∀ (l : List Dm) (i j : Nat) (hi : i < l.length), j < 3 → (l.flatMap dmL)[3 * i + j]? = (dmL l[i])[j]?
  | d :: l, 0, j, hi, hj => by
    rw [List.flatMap_cons, List.getElem?_append_left (by simp [dmL]; omega)]; simp
  | d :: l, i + 1, j, hi, hj => by
    rw [List.flatMap_cons, List.getElem?_append_right (by simp [dmL]; omega)]
    have : 3 * (i + 1) + j - (dmL d).length = 3 * i + j := by simp [dmL]; omega
    rw [this, flat_get l i j (by simpa using hi) hj]; simp
theorem dat_len (l : List Dm) : (l.flatMap dmL).length = 3 * l.length := by
  induction l with
  | nil => rfl
  | cons d l ih => rw [List.flatMap_cons, List.length_append, ih]; simp [dmL]; omega
theorem getD_at (l : List Dm) (i : Nat) (hi : i < l.length) : l.getD i default = l[i] := by simp [List.getD, List.getElem?_eq_getElem hi]
theorem dat_cell {w : World} {b : Nat} {l : List Dm} (h : DatAt w b l) (i j : Nat) (hi : i < l.length) (hj : j < 3) (v : Value) (hv : (dmL (l.getD i default))[j]? = some v) : w.cell? ⟨b, 3 * i + j, none⟩ = some v := by
  rw [cell_of_row w b _ _ _ _ h]
  show (l.flatMap dmL).toArray[3 * i + j]? = some v
  rw [List.getElem?_toArray, flat_get l i j hi hj, ← getD_at l i hi]
  exact hv
theorem dat_k {w : World} {b : Nat} {l : List Dm} (h : DatAt w b l) {i : Nat} (hi : i < l.length) : w.cell? ⟨b, i * 3, none⟩ = some (.int .i64 (dk l i)) := by
  have := dat_cell h i 0 hi (by decide) (.int .i64 (dk l i)) rfl
  rwa [show 3 * i + 0 = i * 3 by omega] at this
theorem dat_t {w : World} {b : Nat} {l : List Dm} (h : DatAt w b l) {i : Nat} (hi : i < l.length) : w.cell? ⟨b, i * 3 + 1, none⟩ = some (.string (dt l i)) := by
  have := dat_cell h i 1 hi (by decide) (.string (dt l i)) rfl
  rwa [show 3 * i + 1 = i * 3 + 1 by omega] at this
theorem dat_u {w : World} {b : Nat} {l : List Dm} (h : DatAt w b l) {i : Nat} (hi : i < l.length) : w.cell? ⟨b, i * 3 + 2, none⟩ = some (.int .i64 (du l i)) := by
  have := dat_cell h i 2 hi (by decide) (.int .i64 (du l i)) rfl
  rwa [show 3 * i + 2 = i * 3 + 2 by omega] at this
/-- The slice of a row's all nodes. -/
abbrev slV (b : Nat) (l : List Dm) : Value := .slice (some ⟨b, 0, none⟩) l.length l.length

set_option maxHeartbeats 1000000 in
set_option maxRecDepth 100000 in
theorem isList_any (k : Int) (w : World) : Calls Tryz.prog 31 #[.int .i64 k] w fun e w' => e = .returned (.bool (isL k)) ∧ w' = w := by
  by_cases h5 : k = 5
  · subst h5
    go_enter Tryz.func31, Tryz.ntmps31
    go_wp2
    go_ret
    exact ⟨rfl, rfl⟩
  · have h5' : (k == 5) = false := beq_eq_false_iff_ne.2 h5
    have HN : Hid (isL k = (k == 6)) := by
      unfold Hid isL; rw [decide_eq_false h5, Bool.false_or]; rfl
    clear h5
    go_enter Tryz.func31, Tryz.ntmps31
    go_wp2
    go_ret
    exact ⟨by rw [HN.out]; rfl, rfl⟩
set_option maxHeartbeats 1000000 in
set_option maxRecDepth 100000 in
theorem l3IsList_any (k : Int) (w : World) : Calls Tryz.prog 23 #[.int .i64 k] w fun e w' => e = .returned (.bool (isL k)) ∧ w' = w := by
  by_cases h5 : k = 5
  · subst h5
    go_enter Tryz.func23, Tryz.ntmps23
    go_wp2
    go_ret
    exact ⟨rfl, rfl⟩
  · have h5' : (k == 5) = false := beq_eq_false_iff_ne.2 h5
    have HN : Hid (isL k = (k == 6)) := by
      unfold Hid isL; rw [decide_eq_false h5, Bool.false_or]; rfl
    clear h5
    go_enter Tryz.func23, Tryz.ntmps23
    go_wp2
    go_ret
    exact ⟨by rw [HN.out]; rfl, rfl⟩

theorem upOk_hit {l : List Dm} {k j : Nat} (hy : (j : Int) = du l k) (h : inChain l k ((k : Int) - 1) (j : Int) = true) : upOk l k = isL (dk l j) := by
  unfold upOk
  rw [← hy, h, decide_eq_false (by omega), Int.toNat_natCast]; rfl
theorem upOk_end {l : List Dm} {k : Nat} (h : inChain l k ((k : Int) - 1) (du l k) = false) : upOk l k = decide (du l k = -1) := by
  unfold upOk
  rw [h, Bool.false_and, Bool.or_false]

set_option maxHeartbeats 1000000 in
set_option maxRecDepth 100000 in
theorem goodUp_any (b : Nat) (l : List Dm) (k : Nat) (x : Int) (w : World) (hx : x = (k : Int)) (hk : k < l.length) (hn : l.length ≤ 300) (hD : DatAt w b l) (hU : Up l k) :
    Calls Tryz.prog 29 #[slV b l, .int .i64 x] w fun e w' => e = .returned (.bool (upOk l k)) ∧ w' = w := by
  have HD := hideT' hD
  have HU := hideT' hU
  have hcu := dat_u hD hk
  subst hx
  obtain ⟨y, hy⟩ : ∃ y, y = du l k := ⟨_, rfl⟩
  rw [← hy] at hcu
  have HY := hideT' hy
  clear hD hU hy
  go_enter Tryz.func29, Tryz.ntmps29
  go_wp2_with fail
  go_loopg [5] k (fun g i wr => ∃ (a : Int), i = .int .i64 a ∧ -1 ≤ a ∧ a < (g : Int) ∧ g ≤ k ∧ Hid (inChain l g a y = inChain l k ((k : Int) - 1) y) ∧ wr = w)
  case atStart => exact ⟨(k : Int) - 1, by go_num, by omega, by omega, by omega, rfl, rfl⟩
  case round =>
    obtain ⟨a, rfl, ha, hag, hgk, HC, rfl⟩ := hrel
    by_cases h0 : 0 ≤ a
    · obtain ⟨j, rfl⟩ : ∃ j : Nat, a = (j : Int) := ⟨a.toNat, by omega⟩
      have hcu2 := dat_u HD.out (show j < l.length by omega)
      have hck2 := dat_k HD.out (show j < l.length by omega)
      by_cases h1 : (j : Int) = y
      · subst h1
        have HN : Hid (upOk l k = isL (dk l j)) := upOk_hit HY.out (by
          obtain ⟨g', rfl⟩ : ∃ g', gk = g' + 1 := ⟨gk - 1, by omega⟩
          rw [← HC.out]; exact chain_hit h0)
        go_wp2_with fail
        refine (isList_any _ _).mono ?_
        rintro e w' ⟨rfl, rfl⟩
        rw [← HN.out]
        obtain ⟨o, ho⟩ : ∃ o, o = upOk l k := ⟨_, rfl⟩
        rw [← ho]
        have HO := hideT' ho
        clear ho
        go_wp2
        go_ret
        exact ⟨by rw [← HO.out]; rfl, rfl⟩
      · have h1' : ((j : Int) == y) = false := beq_eq_false_iff_ne.2 h1
        have hu := HU.out j (by omega)
        have HC2 : Hid (inChain l (gk - 1) (du l j) y = inChain l k ((k : Int) - 1) y) := by
          unfold Hid
          obtain ⟨g', rfl⟩ : ∃ g', gk = g' + 1 := ⟨gk - 1, by omega⟩
          rw [← HC.out, chain_step h0 h1, Int.toNat_natCast]; rfl
        clear h1
        go_wp2
        go_roundg (gk - 1)
        case measure => omega
        case rel => exact ⟨du l j, rfl, hu.1, by omega, by omega, HC2, rfl⟩
    · have h1 : a = -1 := by omega
      subst h1
      have HN : Hid (upOk l k = decide (y = -1)) := by
        unfold Hid
        rw [HY.out]
        refine upOk_end ?_
        rw [← HY.out, ← HC.out]
        exact chain_end (by omega)
      by_cases h1 : y = -1
      · subst h1
        go_wp2
        go_ret
        exact ⟨by rw [HN.out]; rfl, rfl⟩
      · rw [decide_eq_false h1] at HN
        have h1' : ((-1 : Int) == y) = false := beq_eq_false_iff_ne.2 (fun e => h1 e.symm)
        clear h1
        go_wp2
        go_ret
        exact ⟨by rw [HN.out]; rfl, rfl⟩

set_option maxHeartbeats 1000000 in
set_option maxRecDepth 100000 in
theorem l3Around_any (b : Nat) (l : List Dm) (k : Nat) (x y : Int) (w : World) (hx : x = (k : Int)) (hy : y = du l k) (hk : k < l.length) (hn : l.length ≤ 300) (hD : DatAt w b l) (hU : Up l k) :
    Calls Tryz.prog 22 #[slV b l, .int .i64 x, .int .i64 y] w fun e w' => e = .returned (.bool (upOk l k)) ∧ w' = w := by
  have HD := hideT' hD
  have HU := hideT' hU
  subst hx
  have HY := hideT' hy
  clear hD hU hy
  by_cases hm : y = -1
  · have HN : Hid (upOk l k = true) := by unfold Hid upOk; rw [← HY.out, decide_eq_true hm]; rfl
    subst hm
    go_enter Tryz.func22, Tryz.ntmps22
    go_wp2
    go_ret
    exact ⟨by rw [HN.out]; rfl, rfl⟩
  · have hm' : (y == -1) = false := beq_eq_false_iff_ne.2 hm
    have HM := hideT' hm
    clear hm
    go_enter Tryz.func22, Tryz.ntmps22
    go_wp2_with fail
    go_loopg [7] k (fun g i wr => ∃ (a : Int), i = .int .i64 a ∧ -1 ≤ a ∧ a < (g : Int) ∧ g ≤ k ∧ Hid (inChain l g a y = inChain l k ((k : Int) - 1) y) ∧ wr = w)
    case atStart => exact ⟨(k : Int) - 1, by go_num, by omega, by omega, by omega, rfl, rfl⟩
    case round =>
      obtain ⟨a, rfl, ha, hag, hgk, HC, rfl⟩ := hrel
      by_cases h0 : 0 ≤ a
      · obtain ⟨j, rfl⟩ : ∃ j : Nat, a = (j : Int) := ⟨a.toNat, by omega⟩
        have hcu2 := dat_u HD.out (show j < l.length by omega)
        have hck2 := dat_k HD.out (show j < l.length by omega)
        by_cases h1 : (j : Int) = y
        · subst h1
          have HN : Hid (upOk l k = isL (dk l j)) := upOk_hit HY.out (by
            obtain ⟨g', rfl⟩ : ∃ g', gk = g' + 1 := ⟨gk - 1, by omega⟩
            rw [← HC.out]; exact chain_hit h0)
          go_wp2_with fail
          refine (l3IsList_any _ _).mono ?_
          rintro e w' ⟨rfl, rfl⟩
          rw [← HN.out]
          obtain ⟨o, ho⟩ : ∃ o, o = upOk l k := ⟨_, rfl⟩
          rw [← ho]
          have HO := hideT' ho
          clear ho
          go_wp2
          (try simp only [Exit.inBlock, Exit.then]); go_ret
          exact ⟨by rw [← HO.out]; rfl, rfl⟩
        · have h1' : ((j : Int) == y) = false := beq_eq_false_iff_ne.2 h1
          have hu := HU.out j (by omega)
          have HC2 : Hid (inChain l (gk - 1) (du l j) y = inChain l k ((k : Int) - 1) y) := by
            unfold Hid
            obtain ⟨g', rfl⟩ : ∃ g', gk = g' + 1 := ⟨gk - 1, by omega⟩
            rw [← HC.out, chain_step h0 h1, Int.toNat_natCast]; rfl
          clear h1
          go_wp2
          go_roundg (gk - 1)
          case measure => omega
          case rel => exact ⟨du l j, rfl, hu.1, by omega, by omega, HC2, rfl⟩
      · have h1 : a = -1 := by omega
        subst h1
        have HN : Hid (upOk l k = false) := by
          unfold Hid
          rw [upOk_end (by rw [← HY.out, ← HC.out]; exact chain_end (by omega)), ← HY.out, decide_eq_false HM.out]
        go_wp2
        go_ret
        exact ⟨by rw [HN.out]; rfl, rfl⟩
end Go.Proofs.YtkhabnficogbjaaGreatDoor

/-
  What is told of a node's text.
-/
namespace Go.Proofs.YtkhabnficogbjaaGreatDoor
open Go.RowKit
set_option linter.unusedVariables false

set_option maxHeartbeats 1000000 in
set_option maxRecDepth 100000 in
theorem inString_any (c : UInt8) (x : Int) (w : World) (hx : x = (c.toNat : Int)) :
    Calls Tryz.prog 65 #[.int .u8 x] w fun e w' => e = .returned (.bool (strC c)) ∧ w' = w := by
  by_cases h1 : 32 ≤ x
  · by_cases h2 : x ≤ 126
    · have HN : Hid (strC c = true) := by unfold Hid strC; simp; omega
      clear hx
      go_enter Tryz.func65, Tryz.ntmps65
      go_wp2
      go_ret
      exact ⟨by rw [HN.out]; rfl, rfl⟩
    · have HN : Hid (strC c = false) := by unfold Hid strC; simp; omega
      have h3 : (x == 10) = false := beq_eq_false_iff_ne.2 (by omega)
      clear hx
      go_enter Tryz.func65, Tryz.ntmps65
      go_wp2
      go_ret
      exact ⟨by rw [HN.out]; rfl, rfl⟩
  · by_cases h3 : x = 10
    · have HN : Hid (strC c = true) := by unfold Hid strC; simp; omega
      have h3' : (x == 10) = true := by rw [h3]; rfl
      clear hx h3
      go_enter Tryz.func65, Tryz.ntmps65
      go_wp2
      go_ret
      exact ⟨by rw [HN.out]; rfl, rfl⟩
    · have HN : Hid (strC c = false) := by unfold Hid strC; simp; omega
      have h3' : (x == 10) = false := beq_eq_false_iff_ne.2 (by omega)
      clear hx h3
      go_enter Tryz.func65, Tryz.ntmps65
      go_wp2
      go_ret
      exact ⟨by rw [HN.out]; rfl, rfl⟩

theorem str_bad {s : ByteArray} (k : Nat) (h : k < s.size) (hb : strC s[k] = false) : s.data.toList.all strC = false := by
  rw [List.all_eq_false]
  exact ⟨s.data.toList[k]'(by simpa using h), List.getElem_mem _, by show ¬ strC s[k] = true; rw [hb]; decide⟩
theorem str_all {s : ByteArray} (h : ∀ (k : Nat) (hk : k < s.size), strC (s[k]'hk) = true) : s.data.toList.all strC = true := by
  rw [List.all_eq_true]
  intro c hc
  obtain ⟨i, hi, rfl⟩ := List.getElem_of_mem hc
  exact h i (by simpa using hi)

set_option maxHeartbeats 1000000 in
set_option maxRecDepth 100000 in
theorem goodString_any (s : ByteArray) (w : World) (hs : s.size ≤ maxLen) :
    Calls Tryz.prog 46 #[.string s] w fun e w' => e = .returned (.bool (strOk s.data.toList)) ∧ w' = w := by
  unfold maxLen at hs
  have hlen : s.data.toList.length = s.size := by simp
  by_cases h1 : (100 : Int) < (s.size : Int)
  · have HN : Hid (strOk s.data.toList = false) := by unfold Hid strOk; rw [hlen, decide_eq_false (show ¬ s.size ≤ 100 by omega)]; rfl
    clear hlen
    go_enter Tryz.func46, Tryz.ntmps46
    go_wp2
    go_ret
    exact ⟨by rw [HN.out]; rfl, rfl⟩
  · have HA : Hid (strOk s.data.toList = s.data.toList.all strC) := by
      unfold Hid strOk
      rw [hlen, decide_eq_true (show s.size ≤ 100 by omega), Bool.true_and]
    clear hlen
    go_enter Tryz.func46, Tryz.ntmps46
    go_wp2_with fail
    go_loopg [9] s.size (fun g i wr => ∃ k : Nat, g = s.size - k ∧ k ≤ s.size ∧ i = .int .i64 (k : Int) ∧ Hid (∀ (j : Nat) (hj : j < s.size), j < k → strC (s[j]'hj) = true) ∧ wr = w)
    case atStart => exact ⟨0, rfl, by omega, rfl, fun j _ hj => by omega, rfl⟩
    case round =>
      obtain ⟨k, hg, hk, rfl, HK, rfl⟩ := hrel
      by_cases hk1 : (k : Int) < (s.size : Int)
      · have hk' : k < s.size := by omega
        go_wp2_with fail
        refine (inString_any (s[k]'hk') _ _ rfl).mono ?_
        rintro e w' ⟨rfl, rfl⟩
        cases hb : strC (s[k]'hk') with
        | true =>
          have HK2 : Hid (∀ (j : Nat) (hj : j < s.size), j < k + 1 → strC (s[j]'hj) = true) := by
            intro j hj hj2
            by_cases e : j = k
            · subst e; exact hb
            · exact HK.out j hj (by omega)
          clear hb
          go_wp2
          go_roundg (s.size - (k + 1))
          case measure => omega
          case rel => exact ⟨k + 1, rfl, by omega, by go_num, HK2, rfl⟩
        | false =>
          have HN : Hid (strOk s.data.toList = false) := by unfold Hid; rw [HA.out]; exact str_bad k hk' hb
          clear hb
          go_wp2
          go_ret
          exact ⟨by rw [HN.out]; rfl, rfl⟩
      · have HN : Hid (strOk s.data.toList = true) := by unfold Hid; rw [HA.out]; exact str_all (fun j hj => HK.out j hj (by omega))
        go_wp2
        go_ret
        exact ⟨by rw [HN.out]; rfl, rfl⟩

set_option maxHeartbeats 1000000 in
set_option maxRecDepth 100000 in
theorem l3String_any (s : ByteArray) (w : World) (hs : s.size ≤ maxLen) :
    Calls Tryz.prog 26 #[.string s] w fun e w' => e = .returned (.bool (strOk s.data.toList)) ∧ w' = w := by
  unfold maxLen at hs
  go_enter Tryz.func26, Tryz.ntmps26
  go_wp2_with fail
  go_loopg [3] s.size (fun g i wr => ∃ k : Nat, g = s.size - k ∧ k ≤ s.size ∧ i = .int .i64 (k : Int) ∧ Hid (∀ (j : Nat) (hj : j < s.size), j < k → strC (s[j]'hj) = true) ∧ wr = w)
  case atStart => exact ⟨0, rfl, by omega, rfl, fun j _ hj => by omega, rfl⟩
  case round =>
    obtain ⟨k, hg, hk, rfl, HK, rfl⟩ := hrel
    by_cases hk1 : (k : Int) < (s.size : Int)
    · have hk' : k < s.size := by omega
      obtain ⟨x, hx⟩ : ∃ x : Int, x = ((s[k]'hk').toNat : Int) := ⟨_, rfl⟩
      have NO : Hid (strC (s[k]'hk') = false → strOk s.data.toList = false) := fun h => by unfold strOk; rw [str_bad k hk' h, Bool.and_false]
      have YES : Hid (strC (s[k]'hk') = true → ∀ (j : Nat) (hj : j < s.size), j < k + 1 → strC (s[j]'hj) = true) := fun hb j hj hj2 => by
        by_cases e : j = k
        · subst e; exact hb
        · exact HK.out j hj (by omega)
      by_cases h1 : x < 32
      · by_cases h3 : x = 10
        · have HK2 := hideT' (YES.out (by unfold strC; simp; omega))
          have f1 : ((s[k]'hk').toNat : Int) < 32 := by omega
          have f2 : (((s[k]'hk').toNat : Int) == 10) = true := by rw [← hx, h3]; rfl
          clear hx h1 h3
          go_wp2
          go_roundg (s.size - (k + 1))
          case measure => omega
          case rel => exact ⟨k + 1, rfl, by omega, by go_num, HK2, rfl⟩
        · have HN := hideT' (NO.out (by unfold strC; simp; omega))
          have f1 : ((s[k]'hk').toNat : Int) < 32 := by omega
          have f2 : (((s[k]'hk').toNat : Int) == 10) = false := beq_eq_false_iff_ne.2 (by omega)
          clear hx h1 h3
          go_wp2
          go_ret
          exact ⟨by rw [HN.out]; rfl, rfl⟩
      · by_cases h2 : 126 < x
        · have HN := hideT' (NO.out (by unfold strC; simp; omega))
          have f1 : ¬ ((s[k]'hk').toNat : Int) < 32 := by omega
          have f3 : (126 : Int) < ((s[k]'hk').toNat : Int) := by omega
          have f2 : (((s[k]'hk').toNat : Int) == 10) = false := beq_eq_false_iff_ne.2 (by omega)
          clear hx h1 h2
          go_wp2
          go_ret
          exact ⟨by rw [HN.out]; rfl, rfl⟩
        · have HK2 := hideT' (YES.out (by unfold strC; simp; omega))
          have f1 : ¬ ((s[k]'hk').toNat : Int) < 32 := by omega
          have f3 : ¬ (126 : Int) < ((s[k]'hk').toNat : Int) := by omega
          clear hx h1 h2
          go_wp2
          go_roundg (s.size - (k + 1))
          case measure => omega
          case rel => exact ⟨k + 1, rfl, by omega, by go_num, HK2, rfl⟩
    · have HN : Hid (strOk s.data.toList = decide ((s.size : Int) ≤ 100)) := by
        unfold Hid strOk
        have hlen : s.data.toList.length = s.size := by simp
        rw [str_all (fun j hj => HK.out j hj (by omega)), Bool.and_true, hlen]
        exact decide_eq_decide.2 (by omega)
      go_wp2
      go_ret
      exact ⟨by rw [HN.out]; rfl, rfl⟩

/-- A node as a value. -/
def dmC (d : Dm) : Array Value := (dmL d).toArray
theorem dm_c0 {w : World} {b : Nat} {d : Dm} (h : RowAt w b 41 (dmC d)) : w.cell? ⟨b, 0, none⟩ = some (.int .i64 d.k) := by rw [cell_of_row w b _ _ _ _ h]; rfl
theorem dm_c1 {w : World} {b : Nat} {d : Dm} (h : RowAt w b 41 (dmC d)) : w.cell? ⟨b, 1, none⟩ = some (.string d.t) := by rw [cell_of_row w b _ _ _ _ h]; rfl
theorem dm_c2 {w : World} {b : Nat} {d : Dm} (h : RowAt w b 41 (dmC d)) : w.cell? ⟨b, 2, none⟩ = some (.int .i64 d.u) := by rw [cell_of_row w b _ _ _ _ h]; rfl

theorem txt_else {k : Int} {t : List UInt8} (h1 : k ≠ 1) (h2 : k ≠ 2) (h3 : k ≠ 3) (h4 : k ≠ 4) : txtOk k t = (isL k && (t == [])) := by
  unfold txtOk; rw [if_neg h1, if_neg h2, if_neg h3, if_neg h4]

set_option maxHeartbeats 1000000 in
set_option maxRecDepth 100000 in
theorem goodText_any (d : Dm) (w : World) (hs : d.t.size ≤ maxLen) (hT : Tab w.heap.size w) :
    Calls Tryz.prog 30 #[.agg (dmC d)] w fun e w' => e = .returned (.bool (txtOk d.k d.t.data.toList)) ∧ Below w.heap.size w w' := by
  have hR := RowAt.new w 41 (dmC d)
  have c0 := dm_c0 hR
  have c1 := dm_c1 hR
  have hB : Below w.heap.size w (w.alloc (.cells (dmC d) 41)) := (Below.refl _ _).alloc (Nat.le_refl _) _
  have HT : Hid (Tab (w.alloc (.cells (dmC d) 41)).heap.size (w.alloc (.cells (dmC d) 41))) := (hT.on hB).up hB.size
  obtain ⟨k, t, u⟩ := d
  simp only at c0 c1 hs ⊢
  clear hT hR
  by_cases h1 : k = 1
  · subst h1
    have HN : Hid (txtOk 1 t.data.toList = okN t.data.toList) := rfl
    go_enter Tryz.func30, Tryz.ntmps30
    go_wp2_with fail
    refine (implGoodNum_any t _ hs).mono ?_
    rintro e w' ⟨rfl, hW⟩
    rw [← HN.out]
    obtain ⟨o, ho⟩ : ∃ o, o = txtOk 1 t.data.toList := ⟨_, rfl⟩
    rw [← ho]
    have HO := hideT' ho
    clear ho
    go_wp2
    (try simp only [Exit.inBlock, Exit.then]); go_ret
    exact ⟨by rw [← HO.out]; rfl, hB.trans (hW.mono hB.size)⟩
  · by_cases h2 : k = 2
    · subst h2
      have HN : Hid (txtOk 2 t.data.toList = symOk t.data.toList) := rfl
      go_enter Tryz.func30, Tryz.ntmps30
      go_wp2_with fail
      refine (implGoodSymbol_any t _ hs HT.out).mono ?_
      rintro e w' ⟨rfl, hW⟩
      rw [← HN.out]
      obtain ⟨o, ho⟩ : ∃ o, o = txtOk 2 t.data.toList := ⟨_, rfl⟩
      rw [← ho]
      have HO := hideT' ho
      clear ho
      go_wp2
      (try simp only [Exit.inBlock, Exit.then]); go_ret
      exact ⟨by rw [← HO.out]; rfl, hB.trans (hW.mono hB.size)⟩
    · by_cases h3 : k = 3
      · subst h3
        have HN : Hid (txtOk 3 t.data.toList = strOk t.data.toList) := rfl
        go_enter Tryz.func30, Tryz.ntmps30
        go_wp2_with fail
        refine (goodString_any t _ hs).mono ?_
        rintro e w' ⟨rfl, rfl⟩
        rw [← HN.out]
        obtain ⟨o, ho⟩ : ∃ o, o = txtOk 3 t.data.toList := ⟨_, rfl⟩
        rw [← ho]
        have HO := hideT' ho
        clear ho
        go_wp2
        (try simp only [Exit.inBlock, Exit.then]); go_ret
        exact ⟨by rw [← HO.out]; rfl, hB⟩
      · by_cases h4 : k = 4
        · subst h4
          have HN : Hid (txtOk 4 t.data.toList = ((t.data.toList == [116]) || (t.data.toList == [102]))) := rfl
          have e1 : (t.toList == [116]) = (t.data.toList == [116]) := by rw [ByteArray.toList_eq]
          have e2 : (t.toList == [102]) = (t.data.toList == [102]) := by rw [ByteArray.toList_eq]
          cases g1 : (t.data.toList == [116]) with
          | true =>
            rw [g1] at e1 HN
            clear g1 e2
            go_enter Tryz.func30, Tryz.ntmps30
            go_wp2
            (try simp only [Exit.inBlock, Exit.then]); go_ret
            exact ⟨by rw [HN.out]; rfl, hB⟩
          | false =>
            rw [g1] at e1 HN
            cases g2 : (t.data.toList == [102]) with
            | true =>
              rw [g2] at e2 HN
              clear g1 g2
              go_enter Tryz.func30, Tryz.ntmps30
              go_wp2
              (try simp only [Exit.inBlock, Exit.then]); go_ret
              exact ⟨by rw [HN.out]; rfl, hB⟩
            | false =>
              rw [g2] at e2 HN
              clear g1 g2
              go_enter Tryz.func30, Tryz.ntmps30
              go_wp2
              (try simp only [Exit.inBlock, Exit.then]); go_ret
              exact ⟨by rw [HN.out]; rfl, hB⟩
        · have HN := hideT' (txt_else (t := t.data.toList) h1 h2 h3 h4)
          have f1 : (k == 1) = false := beq_eq_false_iff_ne.2 h1
          have f2 : (k == 2) = false := beq_eq_false_iff_ne.2 h2
          have f3 : (k == 3) = false := beq_eq_false_iff_ne.2 h3
          have f4 : (k == 4) = false := beq_eq_false_iff_ne.2 h4
          have e1 : (t.toList == []) = (t.data.toList == []) := by rw [ByteArray.toList_eq]
          clear h1 h2 h3 h4
          go_enter Tryz.func30, Tryz.ntmps30
          go_wp2_with fail
          refine (isList_any _ _).mono ?_
          rintro e w' ⟨rfl, rfl⟩
          cases g1 : isL k with
          | false =>
            rw [g1] at HN
            clear g1 e1
            go_wp2
            go_ret
            exact ⟨by rw [HN.out]; rfl, hB⟩
          | true =>
            rw [g1] at HN
            clear g1
            cases g2 : (t.data.toList == []) with
            | true =>
              rw [g2] at e1 HN
              clear g2
              go_wp2
              go_ret
              exact ⟨by rw [HN.out]; rfl, hB⟩
            | false =>
              rw [g2] at e1 HN
              clear g2
              go_wp2
              go_ret
              exact ⟨by rw [HN.out]; rfl, hB⟩
end Go.Proofs.YtkhabnficogbjaaGreatDoor

/-
  Nodes of data, read and written whole; the parts of a list.
-/
namespace Go.Proofs.YtkhabnficogbjaaGreatDoor
open Go.RowKit
set_option linter.unusedVariables false

def DmAt (w : World) (b : Nat) (d : Dm) : Prop := RowAt w b 41 (dmC d)
theorem zero_dm : (∀ w, (zeroValue 41).run Tryz.prog w = .ok (.agg (dmC default)) w) ∧ (Tryz.prog.info? 41).map (·.size) = some 3 := zero_of_info (by kernel_rfl)
theorem dm_info (d : Dm) : (Tryz.prog.info? 41).map (·.size) = some (dmC d).size := zero_dm.2
theorem dmC_one (d : Dm) : (dmC d).all (·.oneCell') = true := all_oneCell_toArray (fun v hv => by
  simp [dmL] at hv
  rcases hv with rfl | rfl | rfl <;> rfl)
theorem dat_range {w : World} {b : Nat} {l : List Dm} (h : DatAt w b l) {i : Nat} (hi : i < l.length) : w.rangeAt b (i * 3) (dmL (l.getD i default)) := fun j v hv => by
  have hj : j < 3 := by
    have := (List.getElem?_eq_some_iff.1 hv).1
    simpa [dmL] using this
  rw [show i * 3 + j = 3 * i + j by omega]
  exact dat_cell h i j hi hj v hv
/-- A node in a row is read. -/
theorem load_dm {ops : Array Oper} {rest : List Oper} {o : Oper} {a : Act} {w : World} {Q : Exit → Act → World → Prop} (hgd : o.guard = none) (x : Operand) (ho : o.op = .load 41 x)
    (b i : Nat) (hx : a.eval x = .pointer (some ⟨b, i * 3, none⟩)) (l : List Dm) (hD : DatAt w b l) (hi : i < l.length) (d : Dm) (hd : l.getD i default = d)
    (h : wpList Tryz.prog ops Q rest (a.put o.dst (.agg (dmC d))) w) : wpList Tryz.prog ops Q (o :: rest) a w := by
  subst hd
  exact wpList_load_mid hgd 41 x ho b (i * 3) hx (dmL (l.getD i default)) _ (dat_range hD hi) Tryz.underlying41 rfl zero_dm.2 h
theorem dm_parts (l : List Dm) (k : Nat) : ∃ (q : Int) (t : ByteArray) (y : Int), l.getD k default = ⟨q, t, y⟩ ∧ q = dk l k ∧ t = dt l k ∧ y = du l k := ⟨dk l k, dt l k, du l k, rfl, rfl, rfl, rfl⟩
/-- A variable is read. -/
theorem load_dv {ops : Array Oper} {rest : List Oper} {o : Oper} {a : Act} {w : World} {Q : Exit → Act → World → Prop} (hgd : o.guard = none) (x : Operand) (ho : o.op = .load 41 x)
    (b : Nat) (hx : a.eval x = .pointer (some ⟨b, 0, none⟩)) (d : Dm) (hN : DmAt w b d)
    (h : wpList Tryz.prog ops Q rest (a.put o.dst (.agg (dmC d))) w) : wpList Tryz.prog ops Q (o :: rest) a w :=
  wpList_load_row hgd 41 x ho b hx 41 (dmC d) (0, 0) _ hN Tryz.underlying41 rfl (dm_info d) h
/-- A variable is written. -/
theorem store_dv {ops : Array Oper} {rest : List Oper} {o : Oper} {a : Act} {w : World} {Q : Exit → Act → World → Prop} (hgd : o.guard = none) (x y : Operand) (ho : o.op = .store 41 x y) (hd : o.dst = none)
    (b : Nat) (d : Dm) (hx : a.eval x = .pointer (some ⟨b, 0, none⟩)) (hy : a.eval y = .agg (dmC d)) (d0 : Dm) (hN : DmAt w b d0)
    (h : ∀ w', DmAt w' b d → w.grownBy w' (some b) → w'.heap.size = w.heap.size → wpList Tryz.prog ops Q rest a w') : wpList Tryz.prog ops Q (o :: rest) a w := by
  refine wpList_store_row hgd 41 x y ho b (dmC d) hx hy 41 (dmC d0) hN (dm_info d) rfl (dmC_one _) ?_
  rw [hd]
  exact h _ (setRow_heap w b _ _ _ _ hN) ⟨rfl, rfl, rfl, by simp, fun k _ hne => setRow_other w b k _ (by intro e; exact hne (by rw [e]))⟩ (by simp)

def natI (q : List Nat) : List Int := q.map (fun j : Nat => (j : Int))
theorem natI_len (q : List Nat) : (natI q).length = q.length := by simp [natI]

set_option maxHeartbeats 1000000 in
set_option maxRecDepth 100000 in
theorem l3Parts_any (b : Nat) (l : List Dm) (k : Nat) (x : Int) (w : World) (hx : x = (k : Int)) (hk : k < l.length) (hn : l.length ≤ 300) (hD : DatAt w b l) :
    Calls Tryz.prog 27 #[slV b l, .int .i64 x] w fun e w' => ∃ v : Value, e = .returned v ∧ w'.ownsRow w.heap.size 3 1 v (prt l l.length k).length (ints (natI (prt l l.length k))) ∧ Below w.heap.size w w' := by
  have HD := hideT' hD
  have hb := RowAt.lt hD
  subst hx
  clear hD
  obtain ⟨i0, hi, hz0, hz1, hz2⟩ := info_parts Tryz.info_int
  go_enter Tryz.func27, Tryz.ntmps27
  go_wp2_with fail
  go_loopg [5, 6] (l.length - (k + 1)) (fun g v x wr => ∃ (j n : Nat), g = l.length - j ∧ j ≤ l.length ∧ k < j ∧ x = .int .i64 (j : Int) ∧ Hid (n = (prt l j k).length) ∧ n ≤ 300 ∧ wr.ownsRow w.heap.size 3 1 v n (ints (natI (prt l j k))) ∧ Below w.heap.size w wr)
  case atStart =>
    refine ⟨k + 1, 0, rfl, by omega, by omega, by go_num, ?_, by omega, ?_, Below.refl _ _⟩
    · unfold Hid; rw [prt_low l k (k + 1) (Nat.le_refl _)]; rfl
    · rw [prt_low l k (k + 1) (Nat.le_refl _)]; exact World.ownsRow_nil _ _ _ _
  case round =>
    obtain ⟨j, n, hg, hj, hkj, rfl, HN, hn3, hown, hW⟩ := hrel
    have hWs := hW.size
    by_cases hlt : (j : Int) < (l.length : Int)
    · have hj' : j < l.length := by omega
      have hcu := dat_u (RowAt.below HD.out hW hb) hj'
      obtain ⟨y, hy⟩ : ∃ y, y = du l j := ⟨_, rfl⟩
      rw [← hy] at hcu
      by_cases h1 : y = (k : Int)
      · have HP : Hid (prt l (j + 1) k = prt l j k ++ [j]) := by unfold Hid; rw [prt_snoc, if_pos ⟨hkj, by rw [← hy, h1]⟩]
        have h1' : (y == (k : Int)) = true := by rw [h1]; exact beq_self_eq_true _
        clear hy h1
        go_wp2_with (first | (at_builtin; refine wpList_append_own _ rfl _ _ 45 rfl w.heap.size 3 i0 (.int .i64 0) 1 8 Tryz.underlying45 hi hz0 hz1 hz2 rfl (by decide) _ _ _ rfl (hown.alloc _) ⟨wr.heap.size, 0, none⟩ 1 1 [.int .i64 (j : Int)] rfl rfl (cell_one_new _ _ _) (one_cell _) (by unfold maxLen; omega) (by omega) (by simp; omega) ?_; intro v' w1 hown' hgrow _))
        go_roundg (l.length - (j + 1))
        case measure => omega
        case rel =>
          have hnl := HN.out
          have hpl := prt_len l (j + 1) k
          rw [HP.out] at hpl
          simp at hpl
          refine ⟨j + 1, n + 1, rfl, by omega, by omega, by go_num, ?_, by omega, ?_, ?_⟩
          · unfold Hid; rw [HP.out, hnl]; simp
          · rw [HP.out]; simpa [ints, natI] using hown'
          · refine Below.grown (hW.alloc hWs _) hgrow (by simp; omega) ?_
            intro k hk; exact own_ge hown hk
      · have HP : Hid (prt l (j + 1) k = prt l j k) := by unfold Hid; rw [prt_snoc, if_neg (fun h => h1 (by rw [hy]; exact h.2)), List.append_nil]
        have h1' : (y == (k : Int)) = false := beq_eq_false_iff_ne.2 h1
        clear hy h1
        go_wp2_with fail
        go_roundg (l.length - (j + 1))
        case measure => omega
        case rel => exact ⟨j + 1, n, rfl, by omega, by omega, by go_num, by unfold Hid; rw [HP.out]; exact HN.out, by omega, by rw [HP.out]; exact hown, hW⟩
    · have hje : j = l.length := by omega
      subst hje
      go_wp2
      go_ret
      exact ⟨_, rfl, by rw [← HN.out]; exact hown, hW⟩
end Go.Proofs.YtkhabnficogbjaaGreatDoor

/-
  The seats that impl.GoodData keeps beside the nodes.
-/
namespace Go.Proofs.YtkhabnficogbjaaGreatDoor
open Go.RowKit
set_option linter.unusedVariables false

section
variable {P : Program}
theorem run_storeVar_cell (w : World) (b o : Nat) (ty : TypeId) (v : Value) (hc : (w.cell? ⟨b, o, none⟩).isSome = true) (hf : w.frozen? ⟨b, o, none⟩ = false) (hi : (P.info? ty).map (·.size) = some 1) (h1 : v.oneCell' = true) :
    (storeVar ty ⟨b, o, none⟩ v).run P w = .ok () (w.setCell ⟨b, o, none⟩ v) := by
  have := run_storeCells_cells (P := P) b o [v] 0 w (fun j hj => by simp at hj; subst hj; simpa using hc) (fun j hj => by simp at hj; subst hj; simpa using hf) (fun x hx => by simp at hx; subst hx; exact h1)
  have hcl : v.cells = #[v] := by cases v <;> first | rfl | cases h1
  cases hq : P.info? ty with
  | none => simp [hq] at hi
  | some i =>
    have hs : i.size = 1 := by simpa [hq] using hi
    simp only [Nat.add_zero] at this
    simp [storeVar, sizeOf, typeInfo, hq, hcl, hs, this, World.setCells]
end
theorem grown_set (w : World) (b o : Nat) (v : Value) : w.grownBy (w.setCell ⟨b, o, none⟩ v) (some b) :=
  ⟨rfl, rfl, rfl, by simp, fun k _ hne => Deep.blk_setCell_other _ _ _ _ (by intro e; exact hne (by rw [e]))⟩
/-- One cell of a row is written. -/
theorem store_cell {ops : Array Oper} {rest : List Oper} {op : Oper} {a : Act} {w : World} {Q : Exit → Act → World → Prop} (hgd : op.guard = none) (ty : TypeId) (x y : Operand) (ho : op.op = .store ty x y) (hd : op.dst = none)
    (b o : Nat) (v : Value) (hx : a.eval x = .pointer (some ⟨b, o, none⟩)) (hy : a.eval y = v) (hi : (Tryz.prog.info? ty).map (·.size) = some 1) (h1 : v.oneCell' = true) (t : TypeId) (n : Nat) (f : Nat → Value) (hR : w.rowIs b t n f) (hon : o < n)
    (h : ∀ w', w'.rowIs b t n (fun j => if j = o then v else f j) → w.grownBy w' (some b) → w'.heap.size = w.heap.size → wpList Tryz.prog ops Q rest a w') : wpList Tryz.prog ops Q (op :: rest) a w :=
  wpList_plain hgd fun _ hK => by
    unfold Oper.wp execOp
    simp only [ho, hx, hy, Instr.storeAt, Instr.sureAddr, Sem.run_bind, Sem.run_pure, Result.andThen_ok, run_storeVar_cell w b o ty v (by rw [hR.cell hon]; rfl) (hR.frozen o) hi h1]
    have := h _ (hR.set o v) (grown_set w b o v) (by simp)
    have e : a.put op.dst undef = a := by rw [hd]; rfl
    refine hK _ _ ?_
    rw [e]
    exact this
/-- The same, as the one operation of a drawn region that may come up. -/
theorem held_store_cell {ops : Array Oper} {Q : Exit → Act → World → Prop} {md : Region.Mode} {S : World → Prop} {op : Oper} {fuel : Nat} {listed : Array Bool} {a : Act} {w : World} (i : Nat) (hr : Region.ready md ops listed = [i]) (hi : ops[i]? = some op) (hw : Region.wanted op (yielded ops a.tmps) = true) (ty : TypeId) (x y : Operand) (ho : op.op = .store ty x y) (hd : op.dst = none)
    (b o : Nat) (v : Value) (hx : a.eval x = .pointer (some ⟨b, o, none⟩)) (hy : a.eval y = v) (hin : (Tryz.prog.info? ty).map (·.size) = some 1) (h1 : v.oneCell' = true) (t : TypeId) (n : Nat) (f : Nat → Value) (hR : w.rowIs b t n f) (hon : o < n)
    (h : ∀ w', w'.rowIs b t n (fun j => if j = o then v else f j) → w.grownBy w' (some b) → w'.heap.size = w.heap.size → S w' ∧ wpAnyH Tryz.prog md ops Q S fuel (listed.setIfInBounds i true) a w') : wpAnyH Tryz.prog md ops Q S (fuel + 1) listed a w := by
  refine wpAnyH_ready hr (by simp) (AllReadyH.cons hi (fun K hK => ?_) AllReadyH.nil)
  rw [if_pos hw]
  unfold Oper.wp execOp
  simp only [ho, hx, hy, Instr.storeAt, Instr.sureAddr, Sem.run_bind, Sem.run_pure, Result.andThen_ok, run_storeVar_cell w b o ty v (by rw [hR.cell hon]; rfl) (hR.frozen o) hin h1]
  have := h _ (hR.set o v) (grown_set w b o v) (by simp)
  have e : a.put op.dst undef = a := by rw [hd]; rfl
  refine hK.out _ _ this.1 (fun _ => ?_)
  rw [e]
  exact this.2

/-- What the seats hold when k nodes are looked at. -/
def seatF (l : List Dm) (k i : Nat) : Value :=
  if i % 3 = 0 then .int .i64 ((if i / 3 < k then arnd l (i / 3) else 0 : Nat) : Int) else if i % 3 = 1 then .int .i64 ((prt l k (i / 3)).length : Int) else .bool (lastL l (prt l k (i / 3)))
def SeatAt (w : World) (sb : Nat) (l : List Dm) (k : Nat) : Prop := w.rowIs sb 52 (3 * l.length) (seatF l k)
theorem seatF0 (l : List Dm) (k j : Nat) : seatF l k (j * 3) = .int .i64 ((if j < k then arnd l j else 0 : Nat) : Int) := by
  unfold seatF; rw [if_pos (by omega), show j * 3 / 3 = j by omega]
theorem seatF1 (l : List Dm) (k j : Nat) : seatF l k (j * 3 + 1) = .int .i64 ((prt l k j).length : Int) := by
  unfold seatF; rw [if_neg (by omega), if_pos (by omega), show (j * 3 + 1) / 3 = j by omega]
theorem seatF2 (l : List Dm) (k j : Nat) : seatF l k (j * 3 + 2) = .bool (lastL l (prt l k j)) := by
  unfold seatF; rw [if_neg (by omega), if_neg (by omega), show (j * 3 + 2) / 3 = j by omega]
theorem seat_row {w : World} {sb : Nat} {l : List Dm} {k : Nat} {f : Nat → Value} (h : w.rowIs sb 52 (3 * l.length) f) (h0 : ∀ j, j < l.length → f (j * 3) = seatF l k (j * 3)) (h1 : ∀ j, j < l.length → f (j * 3 + 1) = seatF l k (j * 3 + 1)) (h2 : ∀ j, j < l.length → f (j * 3 + 2) = seatF l k (j * 3 + 2)) : SeatAt w sb l k :=
  h.congr (fun i hi => by
    rcases (by omega : i % 3 = 0 ∨ i % 3 = 1 ∨ i % 3 = 2) with e | e | e
    · have := h0 (i / 3) (by omega); rwa [show i / 3 * 3 = i by omega] at this
    · have := h1 (i / 3) (by omega); rwa [show i / 3 * 3 + 1 = i by omega] at this
    · have := h2 (i / 3) (by omega); rwa [show i / 3 * 3 + 2 = i by omega] at this)
theorem SeatAt.below {w w' : World} {sb B : Nat} {l : List Dm} {k : Nat} (h : SeatAt w sb l k) (hg : Below B w w') (hb : sb < B) : SeatAt w' sb l k := World.rowIs.of_block h (hg.block sb hb)
theorem SeatAt.grown {w w' : World} {sb : Nat} {l : List Dm} {k : Nat} {r : Option Nat} (h : SeatAt w sb l k) (hg : w.grownBy w' r) (hr : some sb ≠ r) : SeatAt w' sb l k := World.rowIs.of_block h (hg.block sb (World.rowIs.lt h) hr)

/-- A node that is in no list. -/
theorem seat_none {w : World} {sb : Nat} {l : List Dm} {k : Nat} (h : SeatAt w sb l k) (hu : du l k < 0) : SeatAt w sb l (k + 1) := by
  have hp : ∀ j, prt l (k + 1) j = prt l k j := fun j => by rw [prt_snoc, if_neg (by omega), List.append_nil]
  refine seat_row h (fun j _ => ?_) (fun j _ => ?_) (fun j _ => ?_)
  · rw [seatF0, seatF0]
    by_cases e : j = k
    · subst e; rw [if_neg (by omega), if_pos (by omega), arnd_none hu]
    · by_cases e2 : j < k
      · rw [if_pos e2, if_pos (by omega)]
      · rw [if_neg e2, if_neg (by omega)]
  · rw [seatF1, seatF1, hp]
  · rw [seatF2, seatF2, hp]
/-- A node that is in the list j. -/
theorem seat_some {w : World} {sb : Nat} {l : List Dm} {k j : Nat} (hU : Up l k) (hj : du l k = (j : Int)) (hjk : j < k) (hl : isL (dk l j) = true)
    (h : w.rowIs sb 52 (3 * l.length) (fun i => if i = j * 3 + 2 then .bool (isL (dk l k)) else (fun i => if i = j * 3 + 1 then .int .i64 (((prt l k j).length : Int) + 1) else (fun i => if i = k * 3 then .int .i64 ((arnd l j : Int) + 1) else seatF l k i) i) i)) : SeatAt w sb l (k + 1) := by
  refine seat_row h (fun m _ => ?_) (fun m _ => ?_) (fun m _ => ?_)
  · show (if m * 3 = j * 3 + 2 then _ else if m * 3 = j * 3 + 1 then _ else if m * 3 = k * 3 then _ else _) = _
    rw [if_neg (by omega), if_neg (by omega), seatF0, seatF0]
    by_cases e : m = k
    · subst e; rw [if_pos rfl, if_pos (by omega), arnd_some hU hj hjk hl]; rfl
    · rw [if_neg (by omega)]
      by_cases e2 : m < k
      · rw [if_pos e2, if_pos (by omega)]
      · rw [if_neg e2, if_neg (by omega)]
  · show (if m * 3 + 1 = j * 3 + 2 then _ else if m * 3 + 1 = j * 3 + 1 then _ else if m * 3 + 1 = k * 3 then _ else _) = _
    rw [if_neg (by omega), seatF1, seatF1, prt_snoc]
    by_cases e : m = j
    · subst e; rw [if_pos rfl, if_pos ⟨hjk, hj⟩]; simp
    · rw [if_neg (by omega), if_neg (by omega), if_neg (by omega), List.append_nil]
  · show (if m * 3 + 2 = j * 3 + 2 then _ else if m * 3 + 2 = j * 3 + 1 then _ else if m * 3 + 2 = k * 3 then _ else _) = _
    rw [seatF2, seatF2, prt_snoc]
    by_cases e : m = j
    · subst e; rw [if_pos rfl, if_pos ⟨hjk, hj⟩, lastL_snoc]
    · rw [if_neg (by omega), if_neg (by omega), if_neg (by omega), if_neg (by omega), List.append_nil]

/-- The seats as make lays them. -/
theorem info_seat : (Tryz.prog.info? 52).map (fun i => (i.zero, i.size, i.bytes)) = some (some (.agg #[.int .i64 0, .int .i64 0, .bool false]), 3, 24) := by kernel_rfl
theorem run_make_seats (n : Nat) (hn : n ≤ 300) (w : World) : (Instr.makeSlice 48 (.int .i64 (n : Int)) (.int .i64 (n : Int))).run Tryz.prog w = .ok (.slice (some ⟨w.heap.size, 0, none⟩) n n) (w.alloc (.cells (madeCells #[.int .i64 0, .int .i64 0, .bool false] (n * 3)) 52)) := by
  obtain ⟨i, hi, hzz⟩ := Option.map_eq_some_iff.1 info_seat
  simp only [Prod.mk.injEq] at hzz
  obtain ⟨hz, hs, hb⟩ := hzz
  have hr := run_make (P := Tryz.prog) w 48 52 i _ Tryz.underlying48 hi hz .i64 .i64 n n (by omega) (Int.le_refl _) (by rw [hb]; omega) (by omega)
  simp only [Int.toNat_natCast, hs] at hr
  exact hr
theorem seats_new (w : World) (l : List Dm) : SeatAt (w.alloc (.cells (madeCells #[.int .i64 0, .int .i64 0, .bool false] (l.length * 3)) 52)) w.heap.size l 0 := by
  refine ⟨_, Deep.blk_alloc_new _ _, by rw [size_madeCells]; omega, fun i hi => ?_⟩
  have hp : prt l 0 (i / 3) = [] := rfl
  simp only [madeCells, Array.getElem?_map]
  have hr : (Array.range (l.length * 3))[i]? = some i := by rw [Array.getElem?_eq_getElem (by rw [Array.size_range]; omega), Array.getElem_range]
  rw [hr, Option.map_some]
  unfold seatF
  rcases (by omega : i % 3 = 0 ∨ i % 3 = 1 ∨ i % 3 = 2) with e | e | e
  · rw [if_pos e]; simp [e]
  · rw [if_neg (by omega), if_pos e, hp]; simp [e]
  · rw [if_neg (by omega), if_neg (by omega), hp]; simp [e, lastL]
end Go.Proofs.YtkhabnficogbjaaGreatDoor

/-
  What the laws' own helpers over data answer.
-/
namespace Go.Proofs.YtkhabnficogbjaaGreatDoor
open Go.RowKit
set_option linter.unusedVariables false

theorem zero_ldm : (Tryz.prog.info? 40).map (·.size) = some 3 := by kernel_rfl
theorem ldm_c1 {w : World} {b : Nat} {d : Dm} (h : RowAt w b 40 (dmC d)) : w.cell? ⟨b, 1, none⟩ = some (.string d.t) := by rw [cell_of_row w b _ _ _ _ h]; rfl

set_option maxHeartbeats 1000000 in
set_option maxRecDepth 100000 in
theorem szDatum_any (d : Dm) (n : Int) (w : World) (hs : d.t.size ≤ maxLen) (hn0 : 0 ≤ n) (hn1 : n ≤ 1048576) :
    Calls Tryz.prog 20 #[.agg (dmC d), .int .i64 n] w fun e w' => (∃ r : Int, e = .returned (.int .i64 r) ∧ (r = -1 ∨ (0 ≤ r ∧ r ≤ n))) ∧ Below w.heap.size w w' := by
  have hR := RowAt.new w 40 (dmC d)
  have c1 := ldm_c1 hR
  have hB : Below w.heap.size w (w.alloc (.cells (dmC d) 40)) := (Below.refl _ _).alloc (Nat.le_refl _) _
  obtain ⟨k, t, u⟩ := d
  simp only at c1 hs
  unfold maxLen at hs
  clear hR
  by_cases h : n - (t.size : Int) < 0
  · go_enter Tryz.func20, Tryz.ntmps20
    go_wp2
    go_ret
    exact ⟨⟨-1, rfl, .inl rfl⟩, hB⟩
  · go_enter Tryz.func20, Tryz.ntmps20
    go_wp2
    go_ret
    exact ⟨⟨n - (t.size : Int), rfl, .inr ⟨by omega, by omega⟩⟩, hB⟩

set_option maxHeartbeats 1000000 in
set_option maxRecDepth 100000 in
theorem toDatum_any (d : Dm) (w : World) :
    Calls Tryz.prog 28 #[.agg (dmC d)] w fun e w' => e = .returned (.agg (dmC d)) ∧ Below w.heap.size w w' := by
  have hz : ∀ w, (zeroValue 41).run Tryz.prog w = .ok (.agg #[.int .i64 0, .string ⟨#[]⟩, .int .i64 0]) w := zero_dm.1
  obtain ⟨k, t, u⟩ := d
  show Calls Tryz.prog 28 #[.agg #[.int .i64 k, .string t, .int .i64 u]] w fun e w' => e = .returned (.agg #[.int .i64 k, .string t, .int .i64 u]) ∧ Below w.heap.size w w'
  go_enter Tryz.func28, Tryz.ntmps28
  go_wp2
  refine bodyPost_ret (v := .agg #[.int .i64 k, .string t, .int .i64 u]) (results_cell_row Tryz.results28 _ _ (w.heap.size + 1) 41 #[.int .i64 k, .string t, .int .i64 u] (0, 0) _ rfl (RowAt.old (by have := RowAt.new (w.alloc (.cells #[.int .i64 k, .string t, .int .i64 u] 40)) 41 #[.int .i64 k, .string t, .int .i64 u]; rwa [World.size_alloc] at this) _) Tryz.underlying41 rfl zero_dm.2) rfl ⟨rfl, ?_⟩
  exact (((Below.refl _ _).alloc (Nat.le_refl _) _).alloc (by simp) _).alloc (by simp; omega) _

/-- Data that came in: their cells. -/
def ArgAt (w : World) (a : Addr) (l : List Dm) : Prop := ∀ i j v, i < l.length → (dmL (l.getD i default))[j]? = some v → w.cell? ((a.add (i * 3)).add j) = some v
section
variable {P : Program}
theorem run_loadVar_addr (w : World) (a : Addr) (ty : TypeId) (cs : List Value) (d : TypeDesc) (hc : ∀ j v, cs[j]? = some v → w.cell? (a.add j) = some v)
    (hu : P.underlying ty = some d) (hd : d.isRow = true) (hi : (P.info? ty).map (·.size) = some cs.length) :
    (loadVar ty a).run P w = .ok (.agg cs.toArray) w := by
  have hl : (loadCells a cs.length).run P w = .ok cs.toArray w := run_loadCells_list (P := P) w a cs hc
  cases hq : P.info? ty with
  | none => simp [hq] at hi
  | some i =>
    have hs : i.size = cs.length := by simpa [hq] using hi
    have hagg : (isAgg ty).run P w = .ok true w := by
      unfold isAgg
      rw [Sem.run_bind, run_underlying hu w]
      cases d <;> simp_all
    simp [loadVar, Sem.run_bind, hagg, sizeOf, typeInfo, hq, hs, hl]
end
/-- A node that came in is read. -/
theorem load_arg {ops : Array Oper} {rest : List Oper} {op : Oper} {a : Act} {w : World} {Q : Exit → Act → World → Prop} (hgd : op.guard = none) (x : Operand) (ho : op.op = .load 40 x)
    (A : Addr) (i : Nat) (hx : a.eval x = .pointer (some (A.add (i * 3)))) (l : List Dm) (hD : ArgAt w A l) (hi : i < l.length) (d : Dm) (hd : l.getD i default = d)
    (h : wpList Tryz.prog ops Q rest (a.put op.dst (.agg (dmC d))) w) : wpList Tryz.prog ops Q (op :: rest) a w := by
  subst hd
  refine wpList_plain hgd fun _ hK => ?_
  unfold Oper.wp execOp
  simp only [ho, hx, Instr.loadAt, Instr.sureAddr, Sem.run_bind, Sem.run_pure, Result.andThen_ok, run_loadVar_addr w (A.add (i * 3)) 40 (dmL (l.getD i default)) _ (fun j v hv => hD i j v hi hv) Tryz.underlying40 rfl zero_ldm]
  exact hK _ _ h

/-- A slice of data that came in. -/
def SlIn (w : World) (v : Value) (l : List Dm) : Prop := (v = .slice none 0 0 ∧ l = []) ∨ ∃ (a : Addr) (cap : Nat), v = .slice (some a) l.length cap ∧ ArgAt w a l ∧ (0 < l.length → a.block < w.heap.size)
theorem SlIn.below {w w' : World} {v : Value} {l : List Dm} (h : SlIn w v l) (hB : Below w.heap.size w w') : SlIn w' v l := by
  rcases h with h | ⟨a, cap, rfl, h, hb⟩
  · exact .inl h
  · refine .inr ⟨a, cap, rfl, fun i j u hi hv => ?_, fun hl => Nat.lt_of_lt_of_le (hb hl) hB.size⟩
    rw [hB.cell (by
      have := hb (by omega)
      unfold Addr.add; split <;> split <;> exact this)]
    exact h i j u hi hv

set_option maxHeartbeats 1000000 in
set_option maxRecDepth 100000 in
theorem szDatumS_any (l : List Dm) (v : Value) (n : Int) (w : World) (hv : SlIn w v l) (hs : ∀ i, i < l.length → (dt l i).size ≤ maxLen) (hn0 : 0 ≤ n) (hn1 : n ≤ 1048576) (hl : l.length ≤ maxLen) :
    Calls Tryz.prog 7 #[v, .int .i64 n] w fun e w' => (∃ r : Int, e = .returned (.int .i64 r) ∧ (r = -1 ∨ (0 ≤ r ∧ r ≤ n ∧ (l.length : Int) ≤ n))) ∧ Below w.heap.size w w' := by
  unfold maxLen at hl
  have HS := hideT' hs
  have HV := hideT' hv
  clear hs
  rcases hv with ⟨rfl, rfl⟩ | ⟨A, cap, rfl, hA, hb⟩
  · have h1 : ¬ n < 0 := by omega
    go_enter Tryz.func7, Tryz.ntmps7
    go_wp2_with fail
    go_loopg [1, 5] 0 (fun g x i wr => x = .int .i64 n ∧ i = .int .i64 0 ∧ wr = w)
    case atStart => exact ⟨by go_num, rfl, rfl⟩
    case round =>
      obtain ⟨rfl, rfl, rfl⟩ := hrel
      go_wp2
      go_ret
      exact ⟨⟨n, rfl, .inr ⟨hn0, by omega, by simpa using hn0⟩⟩, Below.refl _ _⟩
  · by_cases h : n - (l.length : Int) < 0
    · go_enter Tryz.func7, Tryz.ntmps7
      go_wp2
      go_ret
      exact ⟨⟨-1, rfl, .inl rfl⟩, Below.refl _ _⟩
    · go_enter Tryz.func7, Tryz.ntmps7
      go_wp2_with fail
      go_loopg [1, 5] l.length (fun g x i wr => ∃ (m : Int) (k : Nat), g = l.length - k ∧ k ≤ l.length ∧ x = .int .i64 m ∧ 0 ≤ m ∧ m ≤ n ∧ i = .int .i64 (k : Int) ∧ Below w.heap.size w wr)
      case atStart => exact ⟨n - (l.length : Int), 0, rfl, by omega, by go_num, by omega, by omega, rfl, Below.refl _ _⟩
      case round =>
        obtain ⟨m, k, hg, hk, rfl, hm0, hm1, rfl, hW⟩ := hrel
        by_cases hlt : (k : Int) < (l.length : Int)
        · have hk' : k < l.length := by omega
          have hAr : ArgAt wr A l := by
            rcases HV.out.below hW with ⟨h1, _⟩ | ⟨A', cap', h1, h2, _⟩
            · cases h1
            · cases h1; exact h2
          obtain ⟨q, t, y, hd, hq, ht, hy⟩ := dm_parts l k
          have HDM := hideT' hd
          have hts : t.size ≤ maxLen := by rw [ht]; exact HS.out k hk'
          clear hd hq ht hy
          go_wp2_with (refine load_arg rfl _ rfl A k rfl l hAr hk' ⟨q, t, y⟩ HDM.out ?_)
          refine (szDatum_any ⟨q, t, y⟩ m _ hts hm0 (by omega)).mono ?_
          rintro e w2 ⟨⟨r, rfl, hr⟩, hW2⟩
          have hW3 := hW.trans (hW2.mono hW.size)
          rcases hr with rfl | ⟨hr0, hr1⟩
          · go_wp2
            go_ret
            exact ⟨⟨-1, rfl, .inl rfl⟩, hW3⟩
          · have hr2 : ¬ r < 0 := by omega
            go_wp2
            go_roundg (l.length - (k + 1))
            case measure => omega
            case rel => exact ⟨r, k + 1, rfl, by omega, rfl, hr0, by omega, by go_num, hW3⟩
        · go_wp2
          go_ret
          exact ⟨⟨m, rfl, .inr ⟨hm0, hm1, by omega⟩⟩, hW⟩
end Go.Proofs.YtkhabnficogbjaaGreatDoor

/-
  The laws' copies of data, and whether two are the same.
-/
namespace Go.Proofs.YtkhabnficogbjaaGreatDoor
open Go.RowKit
set_option linter.unusedVariables false

theorem datC_set (l : List Dm) (i : Nat) (d : Dm) (hi : i < l.length) : datC (l.set i d) = ((l.take i).flatMap dmL ++ dmL d ++ (l.drop (i + 1)).flatMap dmL).toArray := by
  unfold datC
  rw [List.set_eq_take_append_cons_drop, if_pos hi, List.flatMap_append, List.flatMap_cons, List.append_assoc]
theorem datC_split (l : List Dm) (i : Nat) (hi : i < l.length) : datC l = ((l.take i).flatMap dmL ++ dmL l[i] ++ (l.drop (i + 1)).flatMap dmL).toArray := by
  have := datC_set l i l[i] hi
  rwa [List.set_getElem_self] at this
/-- A node of a row is written. -/
theorem store_dm {ops : Array Oper} {rest : List Oper} {op : Oper} {a : Act} {w : World} {Q : Exit → Act → World → Prop} (hgd : op.guard = none) (x y : Operand) (ho : op.op = .store 41 x y) (hd : op.dst = none)
    (b i : Nat) (d : Dm) (hx : a.eval x = .pointer (some ⟨b, i * 3, none⟩)) (hy : a.eval y = .agg (dmC d)) (l : List Dm) (hD : DatAt w b l) (hi : i < l.length)
    (h : ∀ w', DatAt w' b (l.set i d) → w.grownBy w' (some b) → w'.heap.size = w.heap.size → wpList Tryz.prog ops Q rest a w') : wpList Tryz.prog ops Q (op :: rest) a w := by
  have hD' : RowAt w b 41 ((l.take i).flatMap dmL ++ dmL l[i] ++ (l.drop (i + 1)).flatMap dmL).toArray := by rw [← datC_split l i hi]; exact hD
  have hlen : ((l.take i).flatMap dmL).length = i * 3 := by rw [dat_len, List.length_take]; omega
  have hth := RowAt.there hD'
  rw [hlen] at hth
  refine wpList_store_mid hgd 41 x y ho b (i * 3) (dmC d) hx hy hth zero_dm.2 (dmC_one d) ?_
  have e : a.put op.dst undef = a := by rw [hd]; rfl
  rw [e]
  have hput := RowAt.put (dmL d) (i * 3) w ((l.take i).flatMap dmL) (dmL l[i]) ((l.drop (i + 1)).flatMap dmL) rfl hlen hD'
  rw [← datC_set l i d hi] at hput
  refine h _ hput ⟨?_, ?_, ?_, ?_, ?_⟩ ?_
  · rfl
  · rfl
  · rfl
  · simp [World.setCells, dmC, dmL]
  · intro k _ hne
    simp only [World.setCells, dmC, dmL]
    have hk : k ≠ b := fun e => hne (by rw [e])
    rw [Below.heap_setCell _ _ _ _ hk, Below.heap_setCell _ _ _ _ hk, Below.heap_setCell _ _ _ _ hk]
  · simp [World.setCells, dmC, dmL]

theorem info_dm : (Tryz.prog.info? 41).map (fun i => (i.zero, i.size, i.bytes)) = some (some (.agg #[.int .i64 0, .string ⟨#[]⟩, .int .i64 0]), 3, 32) := by kernel_rfl
theorem run_make_data (n : Nat) (hn : n ≤ 1048576) (w : World) : (Instr.makeSlice 25 (.int .i64 (n : Int)) (.int .i64 (n : Int))).run Tryz.prog w = .ok (.slice (some ⟨w.heap.size, 0, none⟩) n n) (w.alloc (.cells (madeCells #[.int .i64 0, .string ⟨#[]⟩, .int .i64 0] (n * 3)) 41)) := by
  obtain ⟨i, hi, hzz⟩ := Option.map_eq_some_iff.1 info_dm
  simp only [Prod.mk.injEq] at hzz
  obtain ⟨hz, hs, hb⟩ := hzz
  have hr := run_make (P := Tryz.prog) w 25 41 i _ Tryz.underlying25 hi hz .i64 .i64 n n (by omega) (Int.le_refl _) (by rw [hb]; omega) (by omega)
  simp only [Int.toNat_natCast, hs] at hr
  exact hr
theorem made_dat (n : Nat) : madeCells #[.int .i64 0, .string ⟨#[]⟩, .int .i64 0] (n * 3) = datC (List.replicate n default) := by
  apply Array.ext_getElem?
  intro i
  by_cases hi : i < n * 3
  · have hr : (Array.range (n * 3))[i]? = some i := by rw [Array.getElem?_eq_getElem (by rw [Array.size_range]; omega), Array.getElem_range]
    have h1 := flat_get (List.replicate n default) (i / 3) (i % 3) (by simp; omega) (by omega)
    rw [show 3 * (i / 3) + i % 3 = i by omega] at h1
    have h2 : (datC (List.replicate n default))[i]? = (dmL default)[i % 3]? := by unfold datC; rw [List.getElem?_toArray, h1, List.getElem_replicate]
    rw [h2]
    simp only [madeCells, Array.getElem?_map, hr, Option.map_some]
    rcases (by omega : i % 3 = 0 ∨ i % 3 = 1 ∨ i % 3 = 2) with e | e | e
    all_goals rw [show i % (#[Value.int .i64 0, .string ⟨#[]⟩, .int .i64 0] : Array Value).size = i % 3 from rfl, e]; rfl
  · rw [Array.getElem?_eq_none (by rw [size_madeCells]; omega), Array.getElem?_eq_none]
    unfold datC
    rw [List.size_toArray, dat_len, List.length_replicate]; omega

theorem take_set (l : List Dm) (k : Nat) (hk : k < l.length) : (l.take k ++ List.replicate (l.length - k) default).set k l[k] = l.take (k + 1) ++ List.replicate (l.length - (k + 1)) default := by
  have h1 : (l.take k).length = k := by rw [List.length_take]; omega
  obtain ⟨m, hm⟩ : ∃ m, l.length - k = m + 1 := ⟨l.length - k - 1, by omega⟩
  rw [hm, List.replicate_succ, List.set_append_right _ _ (by omega), h1, Nat.sub_self, List.set_cons_zero, List.take_succ_eq_append_getElem hk, show l.length - (k + 1) = m by omega, List.append_assoc]
  rfl

set_option maxHeartbeats 1000000 in
set_option maxRecDepth 100000 in
theorem toDatumS_any (l : List Dm) (v : Value) (w : World) (hv : SlIn w v l) (hl : l.length ≤ 1048576) :
    Calls Tryz.prog 9 #[v] w fun e w' => (∃ b : Nat, e = .returned (slV b l) ∧ w.heap.size ≤ b ∧ DatAt w' b l) ∧ Below w.heap.size w w' := by
  have HV := hideT' hv
  have hnew : DatAt (w.alloc (.cells (madeCells #[.int .i64 0, .string ⟨#[]⟩, .int .i64 0] (l.length * 3)) 41)) w.heap.size (l.take 0 ++ List.replicate (l.length - 0) default) := by
    unfold DatAt
    rw [made_dat]
    exact RowAt.new w _ _
  have hBn : Below w.heap.size w (w.alloc (.cells (madeCells #[.int .i64 0, .string ⟨#[]⟩, .int .i64 0] (l.length * 3)) 41)) := (Below.refl _ _).alloc (Nat.le_refl _) _
  have HN := hideT' (And.intro hnew hBn)
  clear hnew hBn
  rcases hv with ⟨rfl, rfl⟩ | ⟨A, cap, rfl, hA, hb⟩
  · have hmk : ∀ w, (Instr.makeSlice 25 (.int .i64 0) (.int .i64 0)).run Tryz.prog w = .ok (.slice (some ⟨w.heap.size, 0, none⟩) 0 0) (w.alloc (.cells (madeCells #[.int .i64 0, .string ⟨#[]⟩, .int .i64 0] (0 * 3)) 41)) := fun w => run_make_data 0 (by omega) w
    go_enter Tryz.func9, Tryz.ntmps9
    go_wp2_with fail
    clear hmk
    go_loopg [4] 0 (fun g i wr => i = .int .i64 0 ∧ DatAt wr w.heap.size [] ∧ Below w.heap.size w wr)
    case atStart => exact ⟨rfl, HN.out.1, HN.out.2⟩
    case round =>
      obtain ⟨rfl, hD, hW⟩ := hrel
      go_wp2
      go_ret
      exact ⟨⟨w.heap.size, rfl, Nat.le_refl _, hD⟩, hW⟩
  · have hmk := run_make_data l.length hl
    go_enter Tryz.func9, Tryz.ntmps9
    go_wp2_with fail
    clear hmk
    go_loopg [4] l.length (fun g i wr => ∃ k : Nat, g = l.length - k ∧ k ≤ l.length ∧ i = .int .i64 (k : Int) ∧ DatAt wr w.heap.size (l.take k ++ List.replicate (l.length - k) default) ∧ Below w.heap.size w wr)
    case atStart => exact ⟨0, rfl, by omega, rfl, HN.out.1, HN.out.2⟩
    case round =>
      obtain ⟨k, hg, hk, rfl, hD, hW⟩ := hrel
      have hsl := RowAt.lt hD
      by_cases hlt : (k : Int) < (l.length : Int)
      · have hk' : k < l.length := by omega
        have hAr : ArgAt wr A l := by
          rcases HV.out.below hW with ⟨h1, _⟩ | ⟨A', cap', h1, h2, _⟩
          · cases h1
          · cases h1; exact h2
        obtain ⟨d, hd⟩ : ∃ d, d = l.getD k default := ⟨_, rfl⟩
        have HDM := hideT' hd.symm
        clear hd
        have hlen : (l.take k ++ List.replicate (l.length - k) default).length = l.length := by simp; omega
        have HLN := hideT' hlen
        clear hlen
        go_wp2_with (refine load_arg rfl _ rfl A k rfl l hAr hk' d HDM.out ?_)
        refine (toDatum_any d _).mono ?_
        rintro e w2 ⟨rfl, hW2⟩
        have hD2 : DatAt w2 w.heap.size (l.take k ++ List.replicate (l.length - k) default) := RowAt.below hD hW2 hsl
        have hW3 := hW.trans (hW2.mono hW.size)
        have hs2 := hW2.size
        clear hD hW2
        go_wp2_with (refine store_dm rfl _ _ rfl rfl w.heap.size k d rfl rfl _ hD2 (by rw [HLN.out]; exact hk') ?_; intro w3 hD3 hg3 hs3)
        go_roundg (l.length - (k + 1))
        case measure => omega
        case rel =>
          have h1 : d = l[k] := by rw [← HDM.out]; exact getD_at l k hk'
          refine ⟨k + 1, rfl, by omega, by go_num, ?_, hW3.grown hg3 (by omega) (by intro k hk; injection hk; omega)⟩
          rw [h1, take_set l k hk'] at hD3
          exact hD3
      · have hkn : k = l.length := by omega
        subst hkn
        have hDl : DatAt wr w.heap.size l := by
          have := hD
          rwa [List.take_length, Nat.sub_self, List.replicate_zero, List.append_nil] at this
        clear hD
        go_wp2
        go_ret
        exact ⟨⟨w.heap.size, rfl, Nat.le_refl _, hDl⟩, hW⟩

set_option maxHeartbeats 1000000 in
set_option maxRecDepth 100000 in
theorem eqDatum_any (d : Dm) (w : World) :
    Calls Tryz.prog 32 #[.agg (dmC d), .agg (dmC d)] w fun e w' => e = .returned (.bool true) ∧ Below w.heap.size w w' := by
  obtain ⟨k, t, u⟩ := d
  show Calls Tryz.prog 32 #[.agg #[.int .i64 k, .string t, .int .i64 u], .agg #[.int .i64 k, .string t, .int .i64 u]] w fun e w' => e = .returned (.bool true) ∧ Below w.heap.size w w'
  go_enter Tryz.func32, Tryz.ntmps32
  go_wp2
  go_ret
  exact ⟨rfl, ((Below.refl _ _).alloc (Nat.le_refl _) _).alloc (by simp) _⟩

theorem run_dm {o : Oper} {a : Act} {w : World} (x : Operand) (ho : o.op = .load 41 x) (b i : Nat) (hx : a.eval x = .pointer (some ⟨b, i * 3, none⟩)) (l : List Dm) (hD : DatAt w b l) (hi : i < l.length) (d : Dm) (hd : l.getD i default = d) :
    (execOp a.eval o).run Tryz.prog w = .ok (.value (.agg (dmC d))) w := by
  subst hd
  have h := run_loadAt_mid (P := Tryz.prog) w b (i * 3) 41 (dmL (l.getD i default)) _ (dat_range hD hi) Tryz.underlying41 rfl zero_dm.2
  unfold execOp
  simp only [ho, hx, Sem.run_bind, h, Result.andThen_ok]
  rfl

set_option maxHeartbeats 1000000 in
set_option maxRecDepth 100000 in
theorem eqDatumS_any (b c : Nat) (l : List Dm) (w : World) (hl : l.length ≤ 1048576) (h1 : DatAt w b l) (h2 : DatAt w c l) :
    Calls Tryz.prog 11 #[slV b l, slV c l] w fun e w' => e = .returned (.bool true) ∧ Below w.heap.size w w' := by
  have H1 := hideT' h1
  have H2 := hideT' h2
  have hb := RowAt.lt h1
  have hc := RowAt.lt h2
  clear h1 h2
  go_enter Tryz.func11, Tryz.ntmps11
  go_wp2_with fail
  go_loopg [5] l.length (fun g i wr => ∃ k : Nat, g = l.length - k ∧ k ≤ l.length ∧ i = .int .i64 (k : Int) ∧ Below w.heap.size w wr)
  case atStart => exact ⟨0, rfl, by omega, rfl, Below.refl _ _⟩
  case round =>
    obtain ⟨k, hg, hk, rfl, hW⟩ := hrel
    by_cases hlt : (k : Int) < (l.length : Int)
    · have hk' : k < l.length := by omega
      obtain ⟨d, hd⟩ : ∃ d, d = l.getD k default := ⟨_, rfl⟩
      have HDM := hideT' hd.symm
      have hS : DatAt wr.drew b l ∧ DatAt wr.drew c l := ⟨RowAt.below H1.out (Below.drew hW) hb, RowAt.below H2.out (Below.drew hW) hc⟩
      clear hd
      go_wp2_with fail
      refine held_begin (fun w' => DatAt w' b l ∧ DatAt w' c l) (by kernel_rfl) ?_
      refine held_val 0 (some 17) rfl rfl (by kernel_rfl) (by kernel_rfl) (by kernel_rfl) noPanic_put rfl (slV b l) (fun _ => rfl) hS ?_
      simp only [Act.put, List.setIfInBounds_toArray, List.set_cons_zero, List.set_cons_succ]
      refine held_val 1 (some 18) rfl rfl (by kernel_rfl) (by kernel_rfl) (by kernel_rfl) noPanic_put rfl (.int .i64 (k : Int)) (fun _ => rfl) hS ?_
      simp only [Act.put, List.setIfInBounds_toArray, List.set_cons_zero, List.set_cons_succ]
      refine held_val 2 (some 19) rfl rfl (by kernel_rfl) (by kernel_rfl) (by kernel_rfl) noPanic_put rfl (.pointer (some ⟨b, k * 3, none⟩)) (fun _ => by go_simp) hS ?_
      simp only [Act.put, List.setIfInBounds_toArray, List.set_cons_zero, List.set_cons_succ]
      refine held_valS 3 (some 20) rfl rfl (by kernel_rfl) (by kernel_rfl) (by kernel_rfl) noPanic_put rfl (.agg (dmC d)) (fun _ hw' => run_dm _ rfl b k rfl l hw'.1 hk' d HDM.out) hS ?_
      simp only [Act.put, List.setIfInBounds_toArray, List.set_cons_zero, List.set_cons_succ]
      refine held_val 4 (some 21) rfl rfl (by kernel_rfl) (by kernel_rfl) (by kernel_rfl) noPanic_put rfl (slV c l) (fun _ => rfl) hS ?_
      simp only [Act.put, List.setIfInBounds_toArray, List.set_cons_zero, List.set_cons_succ]
      refine held_val 5 (some 22) rfl rfl (by kernel_rfl) (by kernel_rfl) (by kernel_rfl) noPanic_put rfl (.int .i64 (k : Int)) (fun _ => rfl) hS ?_
      simp only [Act.put, List.setIfInBounds_toArray, List.set_cons_zero, List.set_cons_succ]
      refine held_val 6 (some 23) rfl rfl (by kernel_rfl) (by kernel_rfl) (by kernel_rfl) noPanic_put rfl (.pointer (some ⟨c, k * 3, none⟩)) (fun _ => by go_simp) hS ?_
      simp only [Act.put, List.setIfInBounds_toArray, List.set_cons_zero, List.set_cons_succ]
      refine held_valS 7 (some 24) rfl rfl (by kernel_rfl) (by kernel_rfl) (by kernel_rfl) noPanic_put rfl (.agg (dmC d)) (fun _ hw' => run_dm _ rfl c k rfl l hw'.2 hk' d HDM.out) hS ?_
      simp only [Act.put, List.setIfInBounds_toArray, List.set_cons_zero, List.set_cons_succ]
      refine held_call 8 (some 25) (by kernel_rfl) rfl rfl rfl 32 #[.agg (dmC d), .agg (dmC d)] (by go_simp) _ (eqDatum_any d wr.drew) ?_
      rintro e w2 ⟨rfl, hW2⟩
      have hW2 : Below wr.heap.size wr w2 := ⟨hW2.os, hW2.tape, hW2.output, hW2.size, hW2.block⟩
      have hW3 := hW.trans (hW2.mono hW.size)
      have hS2 : DatAt w2 b l ∧ DatAt w2 c l := ⟨RowAt.below H1.out hW3 hb, RowAt.below H2.out hW3 hc⟩
      refine ⟨_, rfl, hS2, ?_⟩
      simp only [Act.put, List.setIfInBounds_toArray, List.set_cons_zero, List.set_cons_succ]
      refine held_val 9 (some 26) rfl rfl (by kernel_rfl) (by kernel_rfl) (by kernel_rfl) noPanic_put rfl (.bool false) (fun _ => by go_simp) hS2 ?_
      simp only [Act.put, List.setIfInBounds_toArray, List.set_cons_zero, List.set_cons_succ]
      refine wpAnyH_done (by kernel_rfl) ?_ _
      refine NoPanic.normal ?_
      go_wp2
      go_roundg (l.length - (k + 1))
      case measure => omega
      case rel => exact ⟨k + 1, rfl, by omega, by go_num, hW3⟩
    · go_wp2
      go_ret
      exact ⟨rfl, hW⟩
end Go.Proofs.YtkhabnficogbjaaGreatDoor

/-
  What spec.GoodData answers.
-/
namespace Go.Proofs.YtkhabnficogbjaaGreatDoor
open Go.RowKit
set_option linter.unusedVariables false

theorem dm_c1x {w : World} {b : Nat} {q : Int} {t : ByteArray} {y : Int} (h : DmAt w b ⟨q, t, y⟩) : w.cell? ⟨b, 1, none⟩ = some (.string t) := dm_c1 h
theorem node_eq {l : List Dm} {k : Nat} {q : Int} {t : ByteArray} {c : Nat} (hU : upOk l k = true) (hq : q = dk l k) (ht : t = dt l k) (hc : c = dep l (k + 1) (k : Int)) :
    nodeOk l k = ((txtOk q t.data.toList && decide ((c : Int) ≤ 25)) && dotOk l k) := by
  unfold nodeOk deepOk
  rw [hU, Bool.true_and, ← hq, ← ht, ← hc]
  congr 2
  exact decide_eq_decide.2 (by omega)
theorem dot_not6 {l : List Dm} {k : Nat} {q : Int} (hq : q = dk l k) (h : q ≠ 6) : dotOk l k = true := by
  unfold dotOk; rw [← hq, decide_eq_false h]; rfl
theorem dot_6 {l : List Dm} {k : Nat} (hq : (6 : Int) = dk l k) : dotOk l k = (decide (2 ≤ (prt l l.length k).length) && !lastL l (prt l l.length k)) := by
  unfold dotOk; rw [← hq]; rfl
theorem lastL_get {l : List Dm} {q : List Nat} (h : 0 < q.length) : lastL l q = isL (dk l (q.getD (q.length - 1) 0)) := by
  unfold lastL
  rw [List.getLast?_eq_getElem?, List.getElem?_eq_getElem (by omega)]
  simp [List.getD, List.getElem?_eq_getElem (show q.length - 1 < q.length by omega)]
theorem natI_get (q : List Nat) (i : Nat) : (natI q).getD i 0 = ((q.getD i 0 : Nat) : Int) := by
  unfold natI
  simp only [List.getD, List.getElem?_map]
  cases q[i]? <;> rfl
theorem prt_at {l : List Dm} {n k i : Nat} (h : i < (prt l n k).length) : (prt l n k).getD i 0 < n := by
  refine prt_mem (l := l) (n := n) (k := k) ?_
  simp only [List.getD, List.getElem?_eq_getElem h, Option.getD_some]
  exact List.getElem_mem _

set_option maxHeartbeats 4000000 in
set_option maxRecDepth 100000 in
theorem specGoodData_any (b : Nat) (l : List Dm) (w : World) (hs : ∀ i, i < l.length → (dt l i).size ≤ maxLen) (hD : DatAt w b l) :
    Calls Tryz.prog 8 #[slV b l] w fun e w' => e = .returned (.bool (goodAll l)) ∧ Below w.heap.size w w' := by
  have hz := zero_dm.1
  have HD := hideT' hD
  have HS := hideT' hs
  have hb := RowAt.lt hD
  clear hD hs
  by_cases hn : (300 : Int) < (l.length : Int)
  · have HN : Hid (goodAll l = false) := by unfold Hid goodAll; rw [decide_eq_false (by omega)]; rfl
    go_enter Tryz.func8, Tryz.ntmps8
    go_wp2
    go_ret
    exact ⟨by rw [HN.out]; rfl, Below.refl _ _⟩
  · have hn3 : l.length ≤ 300 := by omega
    go_enter Tryz.func8, Tryz.ntmps8
    go_wp2_with fail
    go_loopg [14] l.length (fun g i wr => ∃ k : Nat, g = l.length - k ∧ k ≤ l.length ∧ i = .int .i64 (k : Int) ∧ Hid (∀ j, j < k → nodeOk l j = true) ∧ Hid (Up l k) ∧ Below w.heap.size w wr)
    case atStart => exact ⟨0, rfl, by omega, rfl, fun j hj => by omega, fun j hj => by omega, Below.refl _ _⟩
    case round =>
      obtain ⟨k, hg, hk, rfl, HK, HU, hW⟩ := hrel
      have hWs := hW.size
      by_cases hlt : (k : Int) < (l.length : Int)
      · have hk' : k < l.length := by omega
        have hDr : DatAt wr b l := RowAt.below HD.out hW hb
        have A : DmAt (wr.alloc (.cells (dmC default) 41)) wr.heap.size default := RowAt.new wr _ _
        obtain ⟨q, t, y, hd, hq, ht, hy⟩ := dm_parts l k
        have HDM := hideT' hd
        have HQ := hideT' hq
        have HTX := hideT' ht
        have HY := hideT' hy
        have hts : t.size ≤ maxLen := by rw [ht]; exact HS.out k hk'
        clear hd hq ht hy
        go_wp2_with (first | (refine load_dm rfl _ rfl b k rfl l hDr hk' ⟨q, t, y⟩ HDM.out ?_) | (refine store_dv rfl _ _ rfl rfl wr.heap.size ⟨q, t, y⟩ rfl rfl default A ?_; intro w1 hN1 hg1 hs1; have c0 : w1.cell? ⟨wr.heap.size, 0, none⟩ = some (.int .i64 q) := dm_c0 hN1; have c1 : w1.cell? ⟨wr.heap.size, 1, none⟩ = some (.string t) := dm_c1 hN1; have c2 : w1.cell? ⟨wr.heap.size, 2, none⟩ = some (.int .i64 y) := dm_c2 hN1))
        have hW1 : Below w.heap.size w w1 := (hW.alloc hWs _).grown hg1 (by simp; omega) (by intro k hk; cases hk; omega)
        have hD1 : DatAt w1 b l := RowAt.below HD.out hW1 hb
        have hs1' : w1.heap.size = wr.heap.size + 1 := by rw [hs1]; simp
        clear A hg1 hs1 hDr hW
        have NO : Hid (nodeOk l k = false → goodAll l = false) := fun h => node_bad hk' h
        refine (l1In_any y (-1) _ _).mono ?_
        rintro e w' ⟨rfl, rfl⟩
        cases hin : (decide (-1 ≤ y) && decide (y ≤ (k : Int) - 1)) with
        | false =>
          have HF := hideT' (NO.out (node_upBad (by
            cases hu : upOk l k with
            | false => rfl
            | true =>
              have h2 := upOk_up HU.out hu
              rw [← HY.out] at h2
              rw [decide_eq_true h2.1, decide_eq_true (by omega)] at hin
              cases hin)))
          clear hin
          go_wp2
          go_ret
          exact ⟨by rw [HF.out]; rfl, hW1⟩
        | true =>
          clear hin
          go_wp2_with fail
          refine (l3Around_any b l k _ y _ rfl HY.out hk' hn3 hD1 HU.out).mono ?_
          rintro e w' ⟨rfl, rfl⟩
          cases hu : upOk l k with
          | false =>
            have HF := hideT' (NO.out (node_upBad hu))
            clear hu
            go_wp2
            go_ret
            exact ⟨by rw [HF.out]; rfl, hW1⟩
          | true =>
            have HOK := hideT' hu
            have HU2 : Hid (Up l (k + 1)) := HU.out.succ hu
            clear hu
            go_wp2_with fail
            go_loopg [5, 6] (k + 1) (fun g dp i wq => ∃ (c : Nat) (a : Int), dp = .int .i64 (c : Int) ∧ i = .int .i64 a ∧ -1 ≤ a ∧ a < (g : Int) ∧ c + g ≤ k + 1 ∧ Hid (c + dep l g a = dep l (k + 1) (k : Int)) ∧ wq = w')
            case atStart => exact ⟨0, (k : Int), rfl, rfl, by omega, by omega, by omega, by unfold Hid; omega, rfl⟩
            case round =>
              obtain ⟨c, a, rfl, rfl, ha, hag, hcg, HC, rfl⟩ := hrel
              by_cases h0 : 0 ≤ a
              · obtain ⟨j, rfl⟩ : ∃ j : Nat, a = (j : Int) := ⟨a.toNat, by omega⟩
                have hcu2 := dat_u hD1 (show j < l.length by omega)
                have hck2 := dat_k hD1 (show j < l.length by omega)
                have hu := HU2.out j (by omega)
                obtain ⟨gk', rfl⟩ : ∃ g', gk = g' + 1 := ⟨gk - 1, by omega⟩
                have HC1 : Hid (c + ((if isL (dk l j) then 1 else 0) + dep l gk' (du l j)) = dep l (k + 1) (k : Int)) := by
                  have := HC.out
                  rw [dep_step h0, Int.toNat_natCast] at this
                  exact this
                go_wp2_with fail
                refine (l3IsList_any _ _).mono ?_
                rintro e w2 ⟨rfl, rfl⟩
                cases hl : isL (dk l j) with
                | true =>
                  have HC2 : Hid (c + 1 + dep l gk' (du l j) = dep l (k + 1) (k : Int)) := by
                    have := HC1.out
                    rw [hl, if_pos rfl] at this
                    unfold Hid; omega
                  clear hl
                  go_wp2
                  go_roundg gk'
                  case measure => omega
                  case rel => exact ⟨c + 1, du l j, by go_num, rfl, hu.1, by omega, by omega, HC2, rfl⟩
                | false =>
                  have HC2 : Hid (c + dep l gk' (du l j) = dep l (k + 1) (k : Int)) := by
                    have := HC1.out
                    rw [hl] at this
                    simp only [Bool.false_eq_true, if_false, Nat.zero_add] at this
                    exact this
                  clear hl
                  go_wp2
                  go_roundg gk'
                  case measure => omega
                  case rel => exact ⟨c, du l j, rfl, rfl, hu.1, by omega, by omega, HC2, rfl⟩
              · have HND : Hid (nodeOk l k = ((txtOk q t.data.toList && decide ((c : Int) ≤ 25)) && dotOk l k)) := node_eq HOK.out HQ.out HTX.out (by
                  have := HC.out
                  rw [dep_end (by omega)] at this
                  omega)
                have GO : Hid (nodeOk l k = true → ∀ j, j < k + 1 → nodeOk l j = true) := fun h j hj => by
                  by_cases e : j = k
                  · subst e; exact h
                  · exact HK.out j (by omega)
                have e0 : (t.toList == []) = (t.data.toList == []) := by rw [ByteArray.toList_eq]
                have e1 : (t.toList == [116]) = (t.data.toList == [116]) := by rw [ByteArray.toList_eq]
                have e2 : (t.toList == [102]) = (t.data.toList == [102]) := by rw [ByteArray.toList_eq]
                clear HC HK
                by_cases hc : (c : Int) ≤ 25
                · rw [decide_eq_true hc] at HND
                  by_cases h1 : q = 1
                  · subst h1
                    have HND2 : Hid (nodeOk l k = okN t.data.toList) := by unfold Hid; rw [HND.out, dot_not6 HQ.out (by decide), Bool.and_true, Bool.and_true]; rfl
                    go_wp2_with fail
                    refine (specGoodNum_any t _ hts).mono ?_
                    rintro e w3 ⟨rfl, hW3⟩
                    have hW13 := hW1.trans (hW3.mono hW1.size)
                    cases ho : okN t.data.toList with
                    | true =>
                      have HK2 := hideT' (GO.out (by rw [HND2.out]; exact ho))
                      clear ho
                      go_wp2
                      go_roundg (l.length - (k + 1))
                      case measure => omega
                      case rel => exact ⟨k + 1, rfl, by omega, by go_num, HK2, HU2, hW13⟩
                    | false =>
                      have HF := hideT' (NO.out (by rw [HND2.out]; exact ho))
                      clear ho
                      go_wp2
                      go_ret
                      exact ⟨by rw [HF.out]; rfl, hW13⟩
                  · by_cases h2 : q = 2
                    · subst h2
                      have HND2 : Hid (nodeOk l k = symOk t.data.toList) := by unfold Hid; rw [HND.out, dot_not6 HQ.out (by decide), Bool.and_true, Bool.and_true]; rfl
                      go_wp2_with fail
                      refine (l3Symbol_any t _ hts).mono ?_
                      rintro e w3 ⟨rfl, hW3⟩
                      have hW13 := hW1.trans (hW3.mono hW1.size)
                      cases ho : symOk t.data.toList with
                      | true =>
                        have HK2 := hideT' (GO.out (by rw [HND2.out]; exact ho))
                        clear ho
                        go_wp2
                        go_roundg (l.length - (k + 1))
                        case measure => omega
                        case rel => exact ⟨k + 1, rfl, by omega, by go_num, HK2, HU2, hW13⟩
                      | false =>
                        have HF := hideT' (NO.out (by rw [HND2.out]; exact ho))
                        clear ho
                        go_wp2
                        go_ret
                        exact ⟨by rw [HF.out]; rfl, hW13⟩
                    · by_cases h3 : q = 3
                      · subst h3
                        have HND2 : Hid (nodeOk l k = strOk t.data.toList) := by unfold Hid; rw [HND.out, dot_not6 HQ.out (by decide), Bool.and_true, Bool.and_true]; rfl
                        go_wp2_with fail
                        refine (l3String_any t _ hts).mono ?_
                        rintro e w3 ⟨rfl, rfl⟩
                        cases ho : strOk t.data.toList with
                        | true =>
                          have HK2 := hideT' (GO.out (by rw [HND2.out]; exact ho))
                          clear ho
                          go_wp2
                          go_roundg (l.length - (k + 1))
                          case measure => omega
                          case rel => exact ⟨k + 1, rfl, by omega, by go_num, HK2, HU2, hW1⟩
                        | false =>
                          have HF := hideT' (NO.out (by rw [HND2.out]; exact ho))
                          clear ho
                          go_wp2
                          go_ret
                          exact ⟨by rw [HF.out]; rfl, hW1⟩
                      · by_cases h4 : q = 4
                        · subst h4
                          have HND2 : Hid (nodeOk l k = ((t.data.toList == [116]) || (t.data.toList == [102]))) := by unfold Hid; rw [HND.out, dot_not6 HQ.out (by decide), Bool.and_true, Bool.and_true]; rfl
                          cases g1 : (t.data.toList == [116]) with
                          | true =>
                            rw [g1] at e1
                            have HK2 := hideT' (GO.out (by rw [HND2.out, g1]; rfl))
                            clear g1 e0 e2
                            go_wp2
                            go_roundg (l.length - (k + 1))
                            case measure => omega
                            case rel => exact ⟨k + 1, rfl, by omega, by go_num, HK2, HU2, hW1⟩
                          | false =>
                            rw [g1] at e1
                            cases g2 : (t.data.toList == [102]) with
                            | true =>
                              rw [g2] at e2
                              have HK2 := hideT' (GO.out (by rw [HND2.out, g1, g2]; rfl))
                              clear g1 g2 e0
                              go_wp2
                              go_roundg (l.length - (k + 1))
                              case measure => omega
                              case rel => exact ⟨k + 1, rfl, by omega, by go_num, HK2, HU2, hW1⟩
                            | false =>
                              rw [g2] at e2
                              have HF := hideT' (NO.out (by rw [HND2.out, g1, g2]; rfl))
                              clear g1 g2 e0
                              go_wp2
                              go_ret
                              exact ⟨by rw [HF.out]; rfl, hW1⟩
                        · by_cases h5 : q = 5
                          · subst h5
                            have HND2 : Hid (nodeOk l k = (t.data.toList == [])) := by unfold Hid; rw [HND.out, dot_not6 HQ.out (by decide), Bool.and_true, Bool.and_true]; rfl
                            cases g1 : (t.data.toList == []) with
                            | true =>
                              rw [g1] at e0
                              have HK2 := hideT' (GO.out (by rw [HND2.out]; exact g1))
                              clear g1 e1 e2
                              go_wp2
                              go_roundg (l.length - (k + 1))
                              case measure => omega
                              case rel => exact ⟨k + 1, rfl, by omega, by go_num, HK2, HU2, hW1⟩
                            | false =>
                              rw [g1] at e0
                              have HF := hideT' (NO.out (by rw [HND2.out]; exact g1))
                              clear g1 e1 e2
                              go_wp2
                              go_ret
                              exact ⟨by rw [HF.out]; rfl, hW1⟩
                          · by_cases h6 : q = 6
                            · subst h6
                              have HND2 : Hid (nodeOk l k = ((t.data.toList == []) && (decide (2 ≤ (prt l l.length k).length) && !lastL l (prt l l.length k)))) := by unfold Hid; rw [HND.out, dot_6 HQ.out, Bool.and_true]; rfl
                              go_wp2_with fail
                              refine (l3Parts_any b l k _ _ rfl hk' hn3 hD1).mono ?_
                              rintro e w3 ⟨v, rfl, hown, hW3⟩
                              have hW13 := hW1.trans (hW3.mono hW1.size)
                              have c1' := dm_c1x (RowAt.below hN1 hW3 (by omega))
                              have hD3 : DatAt w3 b l := RowAt.below HD.out hW13 hb
                              have hpl := prt_len l l.length k
                              have PM : Hid (∀ i, i < (prt l l.length k).length → (prt l l.length k).getD i 0 < l.length) := fun i hi => prt_at hi
                              have LG : Hid (0 < (prt l l.length k).length → lastL l (prt l l.length k) = isL (dk l ((prt l l.length k).getD ((prt l l.length k).length - 1) 0))) := fun h => lastL_get h
                              have OC : Hid (0 < (prt l l.length k).length → ∃ g cap, v = .slice (some ⟨g, 0, none⟩) (prt l l.length k).length cap ∧ w3.cell? ⟨g, (prt l l.length k).length - 1, none⟩ = some (.int .i64 (((prt l l.length k).getD ((prt l l.length k).length - 1) 0 : Nat) : Int)) ∧ (prt l l.length k).length ≤ cap) := fun h => by
                                obtain ⟨g, cap, rfl, _, _, hcap, _⟩ := own_form hown h
                                have := own_cell hown ((prt l l.length k).length - 1) (by rw [natI_len]; omega)
                                rw [natI_get] at this
                                exact ⟨g, cap, rfl, this, hcap⟩
                              obtain ⟨o, cap, hv⟩ := own_form8 hown
                              obtain ⟨P, hP⟩ : ∃ P, P = prt l l.length k := ⟨_, rfl⟩
                              rw [← hP] at HND2 hpl PM LG OC hv
                              clear hP hown hW3
                              obtain ⟨m, hm⟩ : ∃ m, m = P.length := ⟨_, rfl⟩
                              rw [← hm] at HND2 hpl PM LG OC hv
                              clear hm
                              cases g1 : (t.data.toList == []) with
                              | false =>
                                rw [g1] at e0
                                have HF := hideT' (NO.out (by rw [HND2.out, g1]; rfl))
                                subst hv
                                clear g1 e1 e2 OC
                                go_wp2
                                go_ret
                                exact ⟨by rw [HF.out]; rfl, hW13⟩
                              | true =>
                                rw [g1] at e0
                                by_cases hm1 : (1 : Int) < (m : Int)
                                · obtain ⟨g, cap', hv', hcl, hcap⟩ := OC.out (by omega)
                                  subst hv'
                                  clear hv
                                  obtain ⟨z, hz'⟩ : ∃ z, z = P.getD (m - 1) 0 := ⟨_, rfl⟩
                                  have hzl : z < l.length := by rw [hz']; exact PM.out _ (by omega)
                                  rw [← hz'] at hcl
                                  have HND3 : Hid (nodeOk l k = !isL (dk l z)) := by unfold Hid; rw [HND2.out, g1, decide_eq_true (by omega), LG.out (by omega), ← hz']; rfl
                                  obtain ⟨m1, rfl⟩ : ∃ m1, m = m1 + 1 := ⟨m - 1, by omega⟩
                                  rw [Nat.add_sub_cancel] at hcl
                                  have hck := dat_k hD3 hzl
                                  clear g1 e1 e2 OC hz' HND2 LG PM
                                  go_wp2_with fail
                                  refine (l3IsList_any _ _).mono ?_
                                  rintro e w4 ⟨rfl, rfl⟩
                                  cases ho : isL (dk l z) with
                                  | false =>
                                    have HK2 := hideT' (GO.out (by rw [HND3.out, ho]; rfl))
                                    clear ho
                                    go_wp2
                                    go_roundg (l.length - (k + 1))
                                    case measure => omega
                                    case rel => exact ⟨k + 1, rfl, by omega, by go_num, HK2, HU2, hW13⟩
                                  | true =>
                                    have HF := hideT' (NO.out (by rw [HND3.out, ho]; rfl))
                                    clear ho
                                    go_wp2
                                    go_ret
                                    exact ⟨by rw [HF.out]; rfl, hW13⟩
                                · have HF := hideT' (NO.out (by rw [HND2.out, g1, decide_eq_false (by omega)]; rfl))
                                  subst hv
                                  clear g1 e1 e2 OC
                                  go_wp2
                                  go_ret
                                  exact ⟨by rw [HF.out]; rfl, hW13⟩
                            · have f1 : (q == 1) = false := beq_eq_false_iff_ne.2 h1
                              have f2 : (q == 2) = false := beq_eq_false_iff_ne.2 h2
                              have f3 : (q == 3) = false := beq_eq_false_iff_ne.2 h3
                              have f4 : (q == 4) = false := beq_eq_false_iff_ne.2 h4
                              have f5 : (q == 5) = false := beq_eq_false_iff_ne.2 h5
                              have f6 : (q == 6) = false := beq_eq_false_iff_ne.2 h6
                              have HF := hideT' (NO.out (by rw [HND.out, txt_else h1 h2 h3 h4]; unfold isL; rw [decide_eq_false h5, decide_eq_false h6]; rfl))
                              clear h1 h2 h3 h4 h5 h6
                              go_wp2
                              go_ret
                              exact ⟨by rw [HF.out]; rfl, hW1⟩
                · have HF := hideT' (NO.out (by rw [HND.out, decide_eq_false hc, Bool.and_false]; rfl))
                  by_cases h1 : q = 1
                  · subst h1
                    go_wp2
                    go_ret
                    exact ⟨by rw [HF.out]; rfl, hW1⟩
                  · by_cases h2 : q = 2
                    · subst h2
                      go_wp2
                      go_ret
                      exact ⟨by rw [HF.out]; rfl, hW1⟩
                    · by_cases h3 : q = 3
                      · subst h3
                        go_wp2
                        go_ret
                        exact ⟨by rw [HF.out]; rfl, hW1⟩
                      · by_cases h4 : q = 4
                        · subst h4
                          go_wp2
                          go_ret
                          exact ⟨by rw [HF.out]; rfl, hW1⟩
                        · by_cases h5 : q = 5
                          · subst h5
                            go_wp2
                            go_ret
                            exact ⟨by rw [HF.out]; rfl, hW1⟩
                          · by_cases h6 : q = 6
                            · subst h6
                              go_wp2_with fail
                              refine (l3Parts_any b l k _ _ rfl hk' hn3 hD1).mono ?_
                              rintro e w3 ⟨v, rfl, hown, hW3⟩
                              obtain ⟨o, cap, rfl⟩ := own_form8 hown
                              have hW13 := hW1.trans (hW3.mono hW1.size)
                              have c1' := dm_c1x (RowAt.below hN1 hW3 (by omega))
                              go_wp2
                              go_ret
                              exact ⟨by rw [HF.out]; rfl, hW13⟩
                            · have f1 : (q == 1) = false := beq_eq_false_iff_ne.2 h1
                              have f2 : (q == 2) = false := beq_eq_false_iff_ne.2 h2
                              have f3 : (q == 3) = false := beq_eq_false_iff_ne.2 h3
                              have f4 : (q == 4) = false := beq_eq_false_iff_ne.2 h4
                              have f5 : (q == 5) = false := beq_eq_false_iff_ne.2 h5
                              have f6 : (q == 6) = false := beq_eq_false_iff_ne.2 h6
                              clear h1 h2 h3 h4 h5 h6
                              go_wp2
                              go_ret
                              exact ⟨by rw [HF.out]; rfl, hW1⟩
      · have HG := hideT' (node_all hn3 (fun j hj => HK.out j (by omega)))
        go_wp2
        go_ret
        exact ⟨by rw [HG.out]; rfl, hW⟩
end Go.Proofs.YtkhabnficogbjaaGreatDoor

/-
  What impl.GoodData answers.
-/
namespace Go.Proofs.YtkhabnficogbjaaGreatDoor
open Go.RowKit
set_option linter.unusedVariables false

theorem one_int : (Tryz.prog.info? 3).map (·.size) = some 1 := by kernel_rfl
theorem one_bool : (Tryz.prog.info? 4).map (·.size) = some 1 := by kernel_rfl
theorem seat_a {w : World} {sb : Nat} {l : List Dm} {k j : Nat} (h : SeatAt w sb l k) (hj : j < l.length) (r : Int) (hr : r = ((if j < k then arnd l j else 0 : Nat) : Int)) : w.cell? ⟨sb, j * 3, none⟩ = some (.int .i64 r) := by
  rw [World.rowIs.cell h (by omega), seatF0, hr]
theorem seat_p {w : World} {sb : Nat} {l : List Dm} {k j : Nat} (h : SeatAt w sb l k) (hj : j < l.length) (r : Int) (hr : r = ((prt l k j).length : Int)) : w.cell? ⟨sb, j * 3 + 1, none⟩ = some (.int .i64 r) := by
  rw [World.rowIs.cell h (by omega), seatF1, hr]
theorem seat_e {w : World} {sb : Nat} {l : List Dm} {k j : Nat} (h : SeatAt w sb l k) (hj : j < l.length) (r : Bool) (hr : r = lastL l (prt l k j)) : w.cell? ⟨sb, j * 3 + 2, none⟩ = some (.bool r) := by
  rw [World.rowIs.cell h (by omega), seatF2, hr]
theorem arnd_le {l : List Dm} {j : Nat} (h : deepOk l j = true) : arnd l j ≤ 25 := by
  unfold deepOk at h
  rw [deep_arnd] at h
  have := of_decide_eq_true h
  omega
theorem deep_of {l : List Dm} {k : Nat} (hl : isL (dk l k) = true) : deepOk l k = decide (arnd l k < 25) := by
  unfold deepOk
  rw [deep_arnd, if_pos hl]
  exact decide_eq_decide.2 (by omega)
theorem deep_ofn {l : List Dm} {k : Nat} (hl : isL (dk l k) = false) (h : arnd l k ≤ 25) : deepOk l k = true := by
  unfold deepOk
  rw [deep_arnd, hl]
  exact decide_eq_true (by simpa using h)

def OkTo (l : List Dm) (k : Nat) : Prop := ∀ j, j < k → upOk l j = true ∧ txtOk (dk l j) (dt l j).data.toList = true ∧ deepOk l j = true
theorem OkTo.succ {l : List Dm} {k : Nat} (h : OkTo l k) (h1 : upOk l k = true) (h2 : txtOk (dk l k) (dt l k).data.toList = true) (h3 : deepOk l k = true) : OkTo l (k + 1) := fun j hj => by
  by_cases e : j = k
  · subst e; exact ⟨h1, h2, h3⟩
  · exact h j (by omega)

set_option maxHeartbeats 4000000 in
set_option maxRecDepth 100000 in
theorem implGoodData_any (b : Nat) (l : List Dm) (w : World) (hs : ∀ i, i < l.length → (dt l i).size ≤ maxLen) (hD : DatAt w b l) (hT : Tab w.heap.size w) :
    Calls Tryz.prog 10 #[slV b l] w fun e w' => e = .returned (.bool (goodAll l)) ∧ Below w.heap.size w w' := by
  have hz := zero_dm.1
  have HD := hideT' hD
  have HS := hideT' hs
  have HT := hideT' hT
  have hb := RowAt.lt hD
  clear hD hs hT
  by_cases hn : (300 : Int) < (l.length : Int)
  · have HN : Hid (goodAll l = false) := by unfold Hid goodAll; rw [decide_eq_false (by omega)]; rfl
    go_enter Tryz.func10, Tryz.ntmps10
    go_wp2
    go_ret
    exact ⟨by rw [HN.out]; rfl, Below.refl _ _⟩
  · have hn3 : l.length ≤ 300 := by omega
    have hmk := run_make_seats l.length hn3
    go_enter Tryz.func10, Tryz.ntmps10
    go_wp2_with fail
    clear hmk
    go_loopg [16] l.length (fun g i wr => ∃ k : Nat, g = l.length - k ∧ k ≤ l.length ∧ i = .int .i64 (k : Int) ∧ Hid (OkTo l k) ∧ Hid (Up l k) ∧ SeatAt wr w.heap.size l k ∧ Below w.heap.size w wr)
    case atStart => exact ⟨0, rfl, by omega, rfl, fun j hj => by omega, fun j hj => by omega, seats_new w l, (Below.refl _ _).alloc (Nat.le_refl _) _⟩
    case round =>
      obtain ⟨k, hg, hk, rfl, HK, HU, hSt, hW⟩ := hrel
      have hWs := hW.size
      by_cases hlt : (k : Int) < (l.length : Int)
      · have hk' : k < l.length := by omega
        have hDr : DatAt wr b l := RowAt.below HD.out hW hb
        have hsl : w.heap.size < wr.heap.size := World.rowIs.lt hSt
        have A : DmAt (wr.alloc (.cells (dmC default) 41)) wr.heap.size default := RowAt.new wr _ _
        obtain ⟨q, t, y, hd, hq, ht, hy⟩ := dm_parts l k
        have HDM := hideT' hd
        have HQ := hideT' hq
        have HTX := hideT' ht
        have HY := hideT' hy
        have hts : t.size ≤ maxLen := by rw [ht]; exact HS.out k hk'
        clear hd hq ht hy
        go_wp2_with (first | (refine load_dm rfl _ rfl b k rfl l hDr hk' ⟨q, t, y⟩ HDM.out ?_) | (refine store_dv rfl _ _ rfl rfl wr.heap.size ⟨q, t, y⟩ rfl rfl default A ?_; intro w1 hN1 hg1 hs1; have c0 : w1.cell? ⟨wr.heap.size, 0, none⟩ = some (.int .i64 q) := dm_c0 hN1; have c1 : w1.cell? ⟨wr.heap.size, 1, none⟩ = some (.string t) := dm_c1 hN1; have c2 : w1.cell? ⟨wr.heap.size, 2, none⟩ = some (.int .i64 y) := dm_c2 hN1))
        have hW1 : Below w.heap.size w w1 := (hW.alloc hWs _).grown hg1 (by simp; omega) (by intro k hk; cases hk; omega)
        have hD1 : DatAt w1 b l := RowAt.below HD.out hW1 hb
        have hs1' : w1.heap.size = wr.heap.size + 1 := by rw [hs1]; simp
        have hSt1 : SeatAt w1 w.heap.size l k := SeatAt.grown (World.rowIs.alloc hSt _) hg1 (by intro e; injection e; omega)
        have HT1 : Hid (Tab w1.heap.size w1) := (HT.out.on hW1).up hW1.size
        clear A hg1 hs1 hDr hW hSt
        have NO : Hid (nodeOk l k = false → goodAll l = false) := fun h => node_bad hk' h
        refine (goodUp_any b l k _ _ rfl hk' hn3 hD1 HU.out).mono ?_
        rintro e w' ⟨rfl, rfl⟩
        cases hu : upOk l k with
        | false =>
          have HF := hideT' (NO.out (node_upBad hu))
          clear hu
          go_wp2
          go_ret
          exact ⟨by rw [HF.out]; rfl, hW1⟩
        | true =>
          have HOK := hideT' hu
          have HU2 : Hid (Up l (k + 1)) := HU.out.succ hu
          have hyr := upOk_up HU.out hu
          rw [← HY.out] at hyr
          clear hu
          go_wp2_with fail
          refine (goodText_any ⟨q, t, y⟩ _ hts HT1.out).mono ?_
          rintro e w2 ⟨rfl, hW2⟩
          have hs2 := hW2.size
          have hN2 : DmAt w2 wr.heap.size ⟨q, t, y⟩ := RowAt.below hN1 hW2 (by omega)
          have hSt2 : SeatAt w2 w.heap.size l k := hSt1.below hW2 (by omega)
          have hWw2 : Below w.heap.size w w2 := hW1.trans (hW2.mono hW1.size)
          have d0 : w2.cell? ⟨wr.heap.size, 0, none⟩ = some (.int .i64 q) := dm_c0 hN2
          have d2 : w2.cell? ⟨wr.heap.size, 2, none⟩ = some (.int .i64 y) := dm_c2 hN2
          clear hN1 hSt1 hD1 HT1 c0 c1 c2 hW2
          cases htx : txtOk q t.data.toList with
          | false =>
            have HF := hideT' (NO.out (node_txtBad (by rw [← HQ.out, ← HTX.out]; exact htx)))
            clear htx
            go_wp2
            go_ret
            exact ⟨by rw [HF.out]; rfl, hWw2⟩
          | true =>
            have HTO : Hid (txtOk (dk l k) (dt l k).data.toList = true) := by unfold Hid; rw [← HQ.out, ← HTX.out]; exact htx
            clear htx
            by_cases hy0 : 0 ≤ y
            · obtain ⟨j, rfl⟩ : ∃ j : Nat, y = (j : Int) := ⟨y.toNat, by omega⟩
              have hjk : j < k := by omega
              have hjl : isL (dk l j) = true := by
                have := upOk_list HOK.out (by rw [← HY.out]; exact hy0)
                rwa [← HY.out, Int.toNat_natCast] at this
              have HJL := hideT' hjl
              have haj := arnd_le (HK.out j hjk).2.2
              obtain ⟨r, hr⟩ : ∃ r : Int, r = (arnd l j : Int) := ⟨_, rfl⟩
              obtain ⟨p, hp⟩ : ∃ p : Int, p = ((prt l k j).length : Int) := ⟨_, rfl⟩
              have hr0 : 0 ≤ r := by omega
              have hr1 : r ≤ 25 := by omega
              have hp0 : 0 ≤ p := by omega
              have hp1 : p ≤ 300 := by have := prt_len l k j; omega
              have ca := seat_a hSt2 (show j < l.length by omega) r (by rw [if_pos hjk]; exact hr)
              have HR := hideT' hr
              have HP := hideT' hp
              clear hjl haj hr hp
              go_wp2_with (first | (refine store_cell rfl 3 _ _ rfl rfl w.heap.size (k * 3) (.int .i64 (r + 1)) rfl rfl one_int rfl 52 (3 * l.length) (seatF l k) hSt2 (by omega) ?_; intro w3 hR3 hg3 hs3; have cp : w3.cell? ⟨w.heap.size, j * 3 + 1, none⟩ = some (.int .i64 p) := (by rw [World.rowIs.cell hR3 (by omega), if_neg (by omega), seatF1, HP.out]); have d2' : w3.cell? ⟨wr.heap.size, 2, none⟩ = some (.int .i64 (j : Int)) := dm_c2 (RowAt.grown hN2 hg3 (by intro e; injection e; omega))) | (refine store_cell rfl 3 _ _ rfl rfl w.heap.size (j * 3 + 1) (.int .i64 (p + 1)) rfl rfl one_int rfl 52 (3 * l.length) _ hR3 (by omega) ?_; intro w4 hR4 hg4 hs4))
              have hN4 : DmAt w4 wr.heap.size ⟨q, t, (j : Int)⟩ := RowAt.grown (RowAt.grown hN2 hg3 (by intro e; injection e; omega)) hg4 (by intro e; injection e; omega)
              have hW4 : Below w.heap.size w w4 := (hWw2.grown hg3 (by omega) (by intro k hk; injection hk; omega)).grown hg4 (by omega) (by intro k hk; injection hk; omega)
              have hj3 : (j : Int) < (l.length : Int) := by omega
              clear hSt2 hR3 cp d2' ca d0 d2 hN2 hWw2 hg3 hg4
              refine held_begin (fun w' => w'.cell? ⟨wr.heap.size, 2, none⟩ = some (.int .i64 (j : Int)) ∧ w'.cell? ⟨wr.heap.size, 0, none⟩ = some (.int .i64 q)) (by kernel_rfl) ?_
              have hS : w4.drew.cell? ⟨wr.heap.size, 2, none⟩ = some (.int .i64 (j : Int)) ∧ w4.drew.cell? ⟨wr.heap.size, 0, none⟩ = some (.int .i64 q) := ⟨dm_c2 hN4, dm_c0 hN4⟩
              refine held_val 0 (some 53) rfl rfl (by kernel_rfl) (by kernel_rfl) (by kernel_rfl) noPanic_put rfl (.slice (some ⟨w.heap.size, 0, none⟩) l.length l.length) (fun _ => rfl) hS ?_
              simp only [Act.put, List.setIfInBounds_toArray, List.set_cons_zero, List.set_cons_succ]
              refine held_val 1 (some 54) rfl rfl (by kernel_rfl) (by kernel_rfl) (by kernel_rfl) noPanic_put rfl (.pointer (some ⟨wr.heap.size, 2, none⟩)) (fun _ => by go_simp) hS ?_
              simp only [Act.put, List.setIfInBounds_toArray, List.set_cons_zero, List.set_cons_succ]
              refine held_valS 2 (some 55) rfl rfl (by kernel_rfl) (by kernel_rfl) (by kernel_rfl) noPanic_put rfl (.int .i64 (j : Int)) (fun _ hw' => by have h1 := hw'.1; go_simp) hS ?_
              simp only [Act.put, List.setIfInBounds_toArray, List.set_cons_zero, List.set_cons_succ]
              refine held_val 3 (some 56) rfl rfl (by kernel_rfl) (by kernel_rfl) (by kernel_rfl) noPanic_put rfl (.pointer (some ⟨wr.heap.size, 0, none⟩)) (fun _ => by go_simp) hS ?_
              simp only [Act.put, List.setIfInBounds_toArray, List.set_cons_zero, List.set_cons_succ]
              refine held_valS 4 (some 57) rfl rfl (by kernel_rfl) (by kernel_rfl) (by kernel_rfl) noPanic_put rfl (.int .i64 q) (fun _ hw' => by have h1 := hw'.2; go_simp) hS ?_
              simp only [Act.put, List.setIfInBounds_toArray, List.set_cons_zero, List.set_cons_succ]
              refine held_call 5 (some 58) (by kernel_rfl) rfl rfl rfl 31 #[.int .i64 q] (by go_simp) _ (isList_any q w4.drew) ?_
              rintro e w4' ⟨rfl, rfl⟩
              refine ⟨_, rfl, hS, ?_⟩
              simp only [Act.put, List.setIfInBounds_toArray, List.set_cons_zero, List.set_cons_succ]
              refine held_val 6 (some 59) rfl rfl (by kernel_rfl) (by kernel_rfl) (by kernel_rfl) noPanic_put rfl (.pointer (some ⟨w.heap.size, j * 3, none⟩)) (fun _ => by go_simp) hS ?_
              simp only [Act.put, List.setIfInBounds_toArray, List.set_cons_zero, List.set_cons_succ]
              refine held_val 7 (some 60) rfl rfl (by kernel_rfl) (by kernel_rfl) (by kernel_rfl) noPanic_put rfl (.pointer (some ⟨w.heap.size, j * 3 + 2, none⟩)) (fun _ => by go_simp) hS ?_
              simp only [Act.put, List.setIfInBounds_toArray, List.set_cons_zero, List.set_cons_succ]
              refine held_store_cell 8 (by kernel_rfl) rfl rfl 4 _ _ rfl rfl w.heap.size (j * 3 + 2) (.bool (isL q)) rfl rfl one_bool rfl 52 (3 * l.length) _ (World.rowIs.drew hR4) (by omega) ?_
              intro w5 hR5 hg5 hs5
              have hN5 : DmAt w5 wr.heap.size ⟨q, t, (j : Int)⟩ := RowAt.grown (show DmAt w4.drew wr.heap.size ⟨q, t, (j : Int)⟩ from hN4) hg5 (by intro e; injection e; omega)
              have hW5 : Below w.heap.size w w5 := (Below.drew hW4).grown hg5 (by have := hW4.size; exact this) (by intro k hk; injection hk; omega)
              refine ⟨⟨dm_c2 hN5, dm_c0 hN5⟩, ?_⟩
              refine wpAnyH_done (by kernel_rfl) ?_ _
              refine NoPanic.normal ?_
              have hSt5 : SeatAt w5 w.heap.size l (k + 1) := seat_some HU.out HY.out.symm hjk HJL.out (by have h := hR5; rw [HQ.out, HP.out, HR.out] at h; exact h)
              have d0 : w5.cell? ⟨wr.heap.size, 0, none⟩ = some (.int .i64 q) := dm_c0 hN5
              have hak : arnd l k ≤ 25 := by
                rw [arnd_some HU.out HY.out.symm hjk HJL.out]
                have h1 := (HK.out j hjk).2.2
                rw [deep_of HJL.out] at h1
                have := of_decide_eq_true h1
                omega
              clear hR4 hR5 hS hg5 hN4 hN5 hW4
              obtain ⟨z, hz'⟩ : ∃ z : Int, z = (arnd l k : Int) := ⟨_, rfl⟩
              have cz := seat_a hSt5 hk' z (by rw [if_pos (by omega)]; exact hz')
              have HZ := hideT' hz'
              have HAK := hideT' hak
              clear hz' hak
              go_wp2_with fail
              refine (isList_any _ _).mono ?_
              rintro e w6 ⟨rfl, rfl⟩
              cases hil : isL q with
              | false =>
                have HOK2 : Hid (OkTo l (k + 1)) := HK.out.succ HOK.out HTO.out (deep_ofn (by rw [← HQ.out]; exact hil) HAK.out)
                clear hil
                go_wp2
                go_roundg (l.length - (k + 1))
                case measure => omega
                case rel => exact ⟨k + 1, rfl, by omega, by go_num, HOK2, HU2, hSt5, hW5⟩
              | true =>
                have HDE := hideT' (deep_of (l := l) (k := k) (by rw [← HQ.out]; exact hil))
                clear hil
                by_cases h25 : 25 ≤ z
                · have HF := hideT' (NO.out (node_deepBad (by rw [HDE.out]; exact decide_eq_false (by have := HZ.out; omega))))
                  go_wp2
                  go_ret
                  exact ⟨by rw [HF.out]; rfl, hW5⟩
                · have HOK2 : Hid (OkTo l (k + 1)) := HK.out.succ HOK.out HTO.out (by rw [HDE.out]; exact decide_eq_true (by have := HZ.out; omega))
                  go_wp2
                  go_roundg (l.length - (k + 1))
                  case measure => omega
                  case rel => exact ⟨k + 1, rfl, by omega, by go_num, HOK2, HU2, hSt5, hW5⟩
            · have hSt5 : SeatAt w2 w.heap.size l (k + 1) := seat_none hSt2 (by rw [← HY.out]; omega)
              have hak : arnd l k ≤ 25 := by rw [arnd_none (by rw [← HY.out]; omega)]; omega
              clear hSt2
              obtain ⟨z, hz'⟩ : ∃ z : Int, z = (arnd l k : Int) := ⟨_, rfl⟩
              have cz := seat_a hSt5 hk' z (by rw [if_pos (by omega)]; exact hz')
              have HZ := hideT' hz'
              have HAK := hideT' hak
              clear hz' hak
              go_wp2_with fail
              refine (isList_any _ _).mono ?_
              rintro e w6 ⟨rfl, rfl⟩
              cases hil : isL q with
              | false =>
                have HOK2 : Hid (OkTo l (k + 1)) := HK.out.succ HOK.out HTO.out (deep_ofn (by rw [← HQ.out]; exact hil) HAK.out)
                clear hil
                go_wp2
                go_roundg (l.length - (k + 1))
                case measure => omega
                case rel => exact ⟨k + 1, rfl, by omega, by go_num, HOK2, HU2, hSt5, hWw2⟩
              | true =>
                have HDE := hideT' (deep_of (l := l) (k := k) (by rw [← HQ.out]; exact hil))
                clear hil
                by_cases h25 : 25 ≤ z
                · have HF := hideT' (NO.out (node_deepBad (by rw [HDE.out]; exact decide_eq_false (by have := HZ.out; omega))))
                  go_wp2
                  go_ret
                  exact ⟨by rw [HF.out]; rfl, hWw2⟩
                · have HOK2 : Hid (OkTo l (k + 1)) := HK.out.succ HOK.out HTO.out (by rw [HDE.out]; exact decide_eq_true (by have := HZ.out; omega))
                  go_wp2
                  go_roundg (l.length - (k + 1))
                  case measure => omega
                  case rel => exact ⟨k + 1, rfl, by omega, by go_num, HOK2, HU2, hSt5, hWw2⟩
      · have hkn : k = l.length := by omega
        subst hkn
        clear hk hlt hg
        have hsl : w.heap.size < wr.heap.size := World.rowIs.lt hSt
        go_wp2_with fail
        go_loopg [75] l.length (fun g i wq => ∃ k : Nat, g = l.length - k ∧ k ≤ l.length ∧ i = .int .i64 (k : Int) ∧ Hid (∀ j, j < k → nodeOk l j = true) ∧ SeatAt wq w.heap.size l l.length ∧ Below w.heap.size w wq)
        case atStart => exact ⟨0, rfl, by omega, rfl, fun j hj => by omega, hSt, hW⟩
        case round =>
          clear hSt hW hWs hsl
          obtain ⟨k, hg, hk, rfl, HN, hSt, hW⟩ := hrel
          have hWs := hW.size
          have hsl : w.heap.size < wr.heap.size := World.rowIs.lt hSt
          by_cases hlt : (k : Int) < (l.length : Int)
          · have hk' : k < l.length := by omega
            have hDr : DatAt wr b l := RowAt.below HD.out hW hb
            have A : DmAt (wr.alloc (.cells (dmC default) 41)) wr.heap.size default := RowAt.new wr _ _
            obtain ⟨q, t, y, hd, hq, ht, hy⟩ := dm_parts l k
            have HDM := hideT' hd
            have HQ := hideT' hq
            obtain ⟨p, hp⟩ : ∃ p : Int, p = ((prt l l.length k).length : Int) := ⟨_, rfl⟩
            obtain ⟨z, hz'⟩ : ∃ z : Bool, z = lastL l (prt l l.length k) := ⟨_, rfl⟩
            have HP := hideT' hp
            have HZ := hideT' hz'
            have HND : Hid (nodeOk l k = dotOk l k) := by
              obtain ⟨h1, h2, h3⟩ := HK.out k hk'
              unfold Hid nodeOk
              rw [h1, h2, h3]; rfl
            have NO : Hid (nodeOk l k = false → goodAll l = false) := fun h => node_bad hk' h
            have GO : Hid (nodeOk l k = true → ∀ j, j < k + 1 → nodeOk l j = true) := fun h j hj => by
              by_cases e : j = k
              · subst e; exact h
              · exact HN.out j (by omega)
            clear hd hq ht hy hp hz'
            have WALK : ∀ (w1 : World), DmAt w1 wr.heap.size ⟨q, t, y⟩ → (wr.alloc (.cells (dmC default) 41)).grownBy w1 (some wr.heap.size) → w1.cell? ⟨wr.heap.size, 0, none⟩ = some (.int .i64 q) ∧ w1.cell? ⟨w.heap.size, k * 3 + 1, none⟩ = some (.int .i64 p) ∧ w1.cell? ⟨w.heap.size, k * 3 + 2, none⟩ = some (.bool z) ∧ SeatAt w1 w.heap.size l l.length ∧ Below w.heap.size w w1 := fun w1 hN1 hg1 => by
              have hSt1 : SeatAt w1 w.heap.size l l.length := SeatAt.grown (World.rowIs.alloc hSt _) hg1 (by intro e; injection e; omega)
              exact ⟨dm_c0 hN1, seat_p hSt1 hk' p HP.out, seat_e hSt1 hk' z HZ.out, hSt1, (hW.alloc hWs _).grown hg1 (by simp; omega) (by intro k hk; injection hk; omega)⟩
            have WK := hideT' WALK
            clear WALK
            by_cases h6 : q = 6
            · have h6' : (q == 6) = true := by rw [h6]; rfl
              have HDT : Hid (nodeOk l k = (decide (2 ≤ (prt l l.length k).length) && !lastL l (prt l l.length k))) := by
                unfold Hid; rw [HND.out]; unfold dotOk; rw [← HQ.out, decide_eq_true h6]; rfl
              clear h6
              by_cases hp2 : p < 2
              · have HF := hideT' (NO.out (by rw [HDT.out, decide_eq_false (by have := HP.out; omega)]; rfl))
                go_wp2_with (first | (refine load_dm rfl _ rfl b k rfl l hDr hk' ⟨q, t, y⟩ HDM.out ?_) | (refine store_dv rfl _ _ rfl rfl wr.heap.size ⟨q, t, y⟩ rfl rfl default A ?_; intro w1 hN1 hg1 hs1; have hK1 := WK.out w1 hN1 hg1; have k0 := hK1.1; have k1 := hK1.2.1; have k2 := hK1.2.2.1))
                go_ret
                exact ⟨by rw [HF.out]; rfl, hK1.2.2.2.2⟩
              · cases z with
                | true =>
                  have HF := hideT' (NO.out (by rw [HDT.out, ← HZ.out]; simp))
                  go_wp2_with (first | (refine load_dm rfl _ rfl b k rfl l hDr hk' ⟨q, t, y⟩ HDM.out ?_) | (refine store_dv rfl _ _ rfl rfl wr.heap.size ⟨q, t, y⟩ rfl rfl default A ?_; intro w1 hN1 hg1 hs1; have hK1 := WK.out w1 hN1 hg1; have k0 := hK1.1; have k1 := hK1.2.1; have k2 := hK1.2.2.1))
                  go_ret
                  exact ⟨by rw [HF.out]; rfl, hK1.2.2.2.2⟩
                | false =>
                  have HK2 := hideT' (GO.out (by rw [HDT.out, ← HZ.out, decide_eq_true (by have := HP.out; omega)]; rfl))
                  go_wp2_with (first | (refine load_dm rfl _ rfl b k rfl l hDr hk' ⟨q, t, y⟩ HDM.out ?_) | (refine store_dv rfl _ _ rfl rfl wr.heap.size ⟨q, t, y⟩ rfl rfl default A ?_; intro w1 hN1 hg1 hs1; have hK1 := WK.out w1 hN1 hg1; have k0 := hK1.1; have k1 := hK1.2.1; have k2 := hK1.2.2.1))
                  go_roundg (l.length - (k + 1))
                  case measure => omega
                  case rel => exact ⟨k + 1, rfl, by omega, by go_num, HK2, hK1.2.2.2.1, hK1.2.2.2.2⟩
            · have h6' : (q == 6) = false := beq_eq_false_iff_ne.2 h6
              have HK2 := hideT' (GO.out (by rw [HND.out]; unfold dotOk; rw [← HQ.out, decide_eq_false h6]; rfl))
              clear h6
              go_wp2_with (first | (refine load_dm rfl _ rfl b k rfl l hDr hk' ⟨q, t, y⟩ HDM.out ?_) | (refine store_dv rfl _ _ rfl rfl wr.heap.size ⟨q, t, y⟩ rfl rfl default A ?_; intro w1 hN1 hg1 hs1; have hK1 := WK.out w1 hN1 hg1; have k0 := hK1.1; have k1 := hK1.2.1; have k2 := hK1.2.2.1))
              go_roundg (l.length - (k + 1))
              case measure => omega
              case rel => exact ⟨k + 1, rfl, by omega, by go_num, HK2, hK1.2.2.2.1, hK1.2.2.2.2⟩
          · have HG := hideT' (node_all hn3 (fun j hj => HN.out j (by omega)))
            go_wp2
            go_ret
            exact ⟨by rw [HG.out]; rfl, hW⟩
end Go.Proofs.YtkhabnficogbjaaGreatDoor

/-
  Whether data are the same.
-/
namespace Go.Proofs.YtkhabnficogbjaaGreatDoor
open Go.RowKit
set_option linter.unusedVariables false

def dmEq (d e : Dm) : Bool := ((d.k == e.k) && (d.t.toList == e.t.toList)) && (d.u == e.u)
def sameD (l m : List Dm) : Bool := decide (l.length = m.length) && (List.range l.length).all (fun i => dmEq (l.getD i default) (m.getD i default))
theorem sameD_len {l m : List Dm} (h : l.length ≠ m.length) : sameD l m = false := by unfold sameD; rw [decide_eq_false h]; rfl
theorem sameD_no {l m : List Dm} {k : Nat} (hk : k < l.length) (h : dmEq (l.getD k default) (m.getD k default) = false) : sameD l m = false := by
  unfold sameD
  have : (List.range l.length).all (fun i => dmEq (l.getD i default) (m.getD i default)) = false := by
    rw [List.all_eq_false]
    exact ⟨k, List.mem_range.2 hk, by rw [h]; decide⟩
  rw [this, Bool.and_false]
theorem sameD_yes {l m : List Dm} (hlm : l.length = m.length) (h : ∀ k, k < l.length → dmEq (l.getD k default) (m.getD k default) = true) : sameD l m = true := by
  unfold sameD
  rw [decide_eq_true hlm, Bool.true_and, List.all_eq_true]
  intro k hk
  exact h k (List.mem_range.1 hk)

set_option maxRecDepth 100000 in
theorem neq_dm (d e : Dm) (w : World) : (binOp .neq 41 (.agg (dmC d)) (.agg (dmC e))).run Tryz.prog w = .ok (.bool (!dmEq d e)) w := by
  obtain ⟨k, t, u⟩ := d
  obtain ⟨k', t', u'⟩ := e
  show (binOp .neq 41 (.agg #[.int .i64 k, .string t, .int .i64 u]) (.agg #[.int .i64 k', .string t', .int .i64 u'])).run Tryz.prog w = .ok (.bool (!(((k == k') && (t.toList == t'.toList)) && (u == u')))) w
  go_simp
  by_cases h1 : k = k' <;> by_cases h2 : t.toList = t'.toList <;> by_cases h3 : u = u' <;> simp [h1, h2, h3]
set_option maxRecDepth 100000 in
theorem run_neq {o : Oper} {a : Act} {w : World} (x y : Operand) (ho : o.op = .binOp .neq 41 x y 41) (d e : Dm) (hx : a.eval x = .agg (dmC d)) (hy : a.eval y = .agg (dmC e)) :
    (execOp a.eval o).run Tryz.prog w = .ok (.value (.bool (!dmEq d e))) w := by
  unfold execOp
  have hg := fun w => run_eqGuard_agg (P := Tryz.prog) w .neq 41 x y (dmC d) (dmC e) (by kernel_rfl)
  simp only [ho, hx, hy, Sem.run_bind, hg, neq_dm, Result.andThen_ok]
  rfl

set_option maxHeartbeats 1000000 in
set_option maxRecDepth 100000 in
theorem equal_any (b c : Nat) (l m : List Dm) (w : World) (hl : l.length ≤ maxLen) (h1 : DatAt w b l) (h2 : DatAt w c m) :
    Calls Tryz.prog 40 #[slV b l, slV c m] w fun e w' => e = .returned (.bool (sameD l m)) ∧ Below w.heap.size w w' := by
  unfold maxLen at hl
  have H1 := hideT' h1
  have H2 := hideT' h2
  have hb := RowAt.lt h1
  have hc := RowAt.lt h2
  clear h1 h2
  by_cases hlm : l.length = m.length
  · have hle : ((l.length : Int) == (m.length : Int)) = true := by rw [hlm]; exact beq_self_eq_true _
    have hle' : ((l.length : Int) != (m.length : Int)) = false := by rw [hlm]; simp
    have HLM := hideT' hlm
    go_enter Tryz.func40, Tryz.ntmps40
    clear hlm
    go_wp2_with fail
    have hlm := HLM.out
    go_loopg [13] l.length (fun g i wr => ∃ k : Nat, g = l.length - k ∧ k ≤ l.length ∧ i = .int .i64 (k : Int) ∧ Hid (∀ j, j < k → dmEq (l.getD j default) (m.getD j default) = true) ∧ Below w.heap.size w wr)
    case atStart => exact ⟨0, rfl, by omega, rfl, fun j hj => by omega, Below.refl _ _⟩
    case round =>
      obtain ⟨k, hg, hk, rfl, HK, hW⟩ := hrel
      by_cases hlt : (k : Int) < (l.length : Int)
      · have hk' : k < l.length := by omega
        have hkm : k < m.length := by omega
        obtain ⟨d, hd⟩ : ∃ d, d = l.getD k default := ⟨_, rfl⟩
        obtain ⟨d', hd'⟩ : ∃ d', d' = m.getD k default := ⟨_, rfl⟩
        have HD1 := hideT' hd.symm
        have HD2 := hideT' hd'.symm
        have hS : DatAt wr.drew b l ∧ DatAt wr.drew c m := ⟨RowAt.below H1.out (Below.drew hW) hb, RowAt.below H2.out (Below.drew hW) hc⟩
        have hkm' : (k : Int) < (m.length : Int) := by omega
        clear hd hd'
        go_wp2_with fail
        refine held_begin (fun w' => DatAt w' b l ∧ DatAt w' c m) (by kernel_rfl) ?_
        refine held_val 0 (some 16) rfl rfl (by kernel_rfl) (by kernel_rfl) (by kernel_rfl) noPanic_put rfl (slV b l) (fun _ => rfl) hS ?_
        simp only [Act.put, List.setIfInBounds_toArray, List.set_cons_zero, List.set_cons_succ]
        refine held_val 1 (some 17) rfl rfl (by kernel_rfl) (by kernel_rfl) (by kernel_rfl) noPanic_put rfl (.int .i64 (k : Int)) (fun _ => rfl) hS ?_
        simp only [Act.put, List.setIfInBounds_toArray, List.set_cons_zero, List.set_cons_succ]
        refine held_val 2 (some 18) rfl rfl (by kernel_rfl) (by kernel_rfl) (by kernel_rfl) noPanic_put rfl (.pointer (some ⟨b, k * 3, none⟩)) (fun _ => by go_simp) hS ?_
        simp only [Act.put, List.setIfInBounds_toArray, List.set_cons_zero, List.set_cons_succ]
        refine held_valS 3 (some 19) rfl rfl (by kernel_rfl) (by kernel_rfl) (by kernel_rfl) noPanic_put rfl (.agg (dmC d)) (fun _ hw' => run_dm _ rfl b k rfl l hw'.1 hk' d HD1.out) hS ?_
        simp only [Act.put, List.setIfInBounds_toArray, List.set_cons_zero, List.set_cons_succ]
        refine held_val 4 (some 20) rfl rfl (by kernel_rfl) (by kernel_rfl) (by kernel_rfl) noPanic_put rfl (slV c m) (fun _ => rfl) hS ?_
        simp only [Act.put, List.setIfInBounds_toArray, List.set_cons_zero, List.set_cons_succ]
        refine held_val 5 (some 21) rfl rfl (by kernel_rfl) (by kernel_rfl) (by kernel_rfl) noPanic_put rfl (.int .i64 (k : Int)) (fun _ => rfl) hS ?_
        simp only [Act.put, List.setIfInBounds_toArray, List.set_cons_zero, List.set_cons_succ]
        refine held_val 6 (some 22) rfl rfl (by kernel_rfl) (by kernel_rfl) (by kernel_rfl) noPanic_put rfl (.pointer (some ⟨c, k * 3, none⟩)) (fun _ => by go_simp) hS ?_
        simp only [Act.put, List.setIfInBounds_toArray, List.set_cons_zero, List.set_cons_succ]
        refine held_valS 7 (some 23) rfl rfl (by kernel_rfl) (by kernel_rfl) (by kernel_rfl) noPanic_put rfl (.agg (dmC d')) (fun _ hw' => run_dm _ rfl c k rfl m hw'.2 hkm d' HD2.out) hS ?_
        simp only [Act.put, List.setIfInBounds_toArray, List.set_cons_zero, List.set_cons_succ]
        refine held_val 8 (some 24) rfl rfl (by kernel_rfl) (by kernel_rfl) (by kernel_rfl) noPanic_put rfl (.bool (!dmEq d d')) (fun _ => run_neq _ _ rfl d d' rfl rfl) hS ?_
        simp only [Act.put, List.setIfInBounds_toArray, List.set_cons_zero, List.set_cons_succ]
        refine wpAnyH_done (by kernel_rfl) ?_ _
        refine NoPanic.normal ?_
        cases he : dmEq d d' with
        | true =>
          have HK2 : Hid (∀ j, j < k + 1 → dmEq (l.getD j default) (m.getD j default) = true) := fun j hj => by
            by_cases e : j = k
            · subst e; rw [HD1.out, HD2.out]; exact he
            · exact HK.out j (by omega)
          clear he
          go_wp2
          go_roundg (l.length - (k + 1))
          case measure => omega
          case rel => exact ⟨k + 1, rfl, by omega, by go_num, HK2, Below.drew hW⟩
        | false =>
          have HN : Hid (sameD l m = false) := sameD_no hk' (by rw [HD1.out, HD2.out]; exact he)
          clear he
          go_wp2
          go_ret
          exact ⟨by rw [HN.out]; rfl, Below.drew hW⟩
      · have HY : Hid (sameD l m = true) := sameD_yes hlm (fun j hj => HK.out j (by omega))
        go_wp2
        go_ret
        exact ⟨by rw [HY.out]; rfl, hW⟩
  · have hle : ((l.length : Int) == (m.length : Int)) = false := beq_eq_false_iff_ne.2 (by omega)
    have HN := hideT' (sameD_len hlm)
    clear hlm
    go_enter Tryz.func40, Tryz.ntmps40
    go_wp2
    go_ret
    exact ⟨by rw [HN.out]; rfl, Below.refl _ _⟩

/-- What SameData should answer. -/
def sameV (l m : List Dm) : Value := .tuple #[.bool ((goodAll l && goodAll m) && sameD l m), .bool (goodAll l && goodAll m)]

set_option maxHeartbeats 2000000 in
set_option maxRecDepth 100000 in
theorem implSameData_any (b c : Nat) (l m : List Dm) (w : World) (hl : l.length ≤ maxLen) (hsl : ∀ i, i < l.length → (dt l i).size ≤ maxLen) (hsm : ∀ i, i < m.length → (dt m i).size ≤ maxLen) (h1 : DatAt w b l) (h2 : DatAt w c m) (hT : Tab w.heap.size w) :
    Calls Tryz.prog 19 #[slV b l, slV c m] w fun e w' => e = .returned (sameV l m) ∧ Below w.heap.size w w' := by
  have hb := RowAt.lt h1
  have hc := RowAt.lt h2
  have HT := hideT' hT
  have HSL := hideT' hsl
  have HSM := hideT' hsm
  clear hT hsl hsm
  go_enter Tryz.func19, Tryz.ntmps19
  go_wp2_with fail
  refine (implGoodData_any b l w HSL.out h1 HT.out).mono ?_
  rintro e w1 ⟨rfl, hW1⟩
  have h1' : DatAt w1 b l := RowAt.below h1 hW1 hb
  have h2' : DatAt w1 c m := RowAt.below h2 hW1 hc
  have HT1 : Hid (Tab w1.heap.size w1) := (HT.out.on hW1).up hW1.size
  have hb1 := RowAt.lt h1'
  have hc1 := RowAt.lt h2'
  cases g1 : goodAll l with
  | false =>
    have HN : Hid (sameV l m = .tuple #[.bool false, .bool false]) := by unfold Hid sameV; rw [g1]; rfl
    clear g1
    go_wp2
    go_ret2
    exact ⟨by rw [HN.out]; rfl, hW1⟩
  | true =>
    go_wp2_with fail
    refine (implGoodData_any c m w1 HSM.out h2' HT1.out).mono ?_
    rintro e w2 ⟨rfl, hW2⟩
    have hB2 := hW1.trans (hW2.mono hW1.size)
    cases g2 : goodAll m with
    | false =>
      have HN : Hid (sameV l m = .tuple #[.bool false, .bool false]) := by unfold Hid sameV; rw [g1, g2]; rfl
      clear g1 g2
      go_wp2
      go_ret2
      exact ⟨by rw [HN.out]; rfl, hB2⟩
    | true =>
      have HN : Hid (sameV l m = .tuple #[.bool (sameD l m), .bool true]) := by unfold Hid sameV; rw [g1, g2]; rfl
      clear g1 g2
      go_wp2_with fail
      refine (equal_any b c l m w2 hl (RowAt.below h1' hW2 hb1) (RowAt.below h2' hW2 hc1)).mono ?_
      rintro e w3 ⟨rfl, hW3⟩
      obtain ⟨o, ho⟩ : ∃ o, o = sameD l m := ⟨_, rfl⟩
      rw [← ho] at HN ⊢
      clear ho
      go_wp2
      go_ret2
      exact ⟨by rw [HN.out]; rfl, hB2.trans (hW3.mono hB2.size)⟩

set_option maxHeartbeats 2000000 in
set_option maxRecDepth 100000 in
theorem specSameData_any (b c : Nat) (l m : List Dm) (w0 : World) (hl : l.length ≤ maxLen) (hsl : ∀ i, i < l.length → (dt l i).size ≤ maxLen) (hsm : ∀ i, i < m.length → (dt m i).size ≤ maxLen) (h1 : DatAt w0 b l) (h2 : DatAt w0 c m) :
    Calls Tryz.prog 18 #[slV b l, slV c m] w0 fun e w' => e = .returned (sameV l m) ∧ Below w0.heap.size w0 w' := by
  unfold maxLen at hl
  have hb := RowAt.lt h1
  have hc := RowAt.lt h2
  have HSL := hideT' hsl
  have HSM := hideT' hsm
  clear hsl hsm
  go_enter Tryz.func18, Tryz.ntmps18
  go_wp2_with fail
  refine (specGoodData_any b l w0 HSL.out h1).mono ?_
  rintro e w1 ⟨rfl, hW1⟩
  have h1' : DatAt w1 b l := RowAt.below h1 hW1 hb
  have h2' : DatAt w1 c m := RowAt.below h2 hW1 hc
  have hb1 := RowAt.lt h1'
  have hc1 := RowAt.lt h2'
  cases g1 : goodAll l with
  | false =>
    have HN : Hid (sameV l m = .tuple #[.bool false, .bool false]) := by unfold Hid sameV; rw [g1]; rfl
    clear g1
    go_wp2
    go_ret2
    exact ⟨by rw [HN.out]; rfl, hW1⟩
  | true =>
    go_wp2_with fail
    refine (specGoodData_any c m w1 HSM.out h2').mono ?_
    rintro e w ⟨rfl, hW2⟩
    have hB2 := hW1.trans (hW2.mono hW1.size)
    cases g2 : goodAll m with
    | false =>
      have HN : Hid (sameV l m = .tuple #[.bool false, .bool false]) := by unfold Hid sameV; rw [g1, g2]; rfl
      clear g1 g2
      go_wp2
      go_ret2
      exact ⟨by rw [HN.out]; rfl, hB2⟩
    | true =>
      have HN0 : Hid (sameV l m = .tuple #[.bool (sameD l m), .bool true]) := by unfold Hid sameV; rw [g1, g2]; rfl
      have H1 : Hid (DatAt w b l) := RowAt.below h1' hW2 hb1
      have H2 : Hid (DatAt w c m) := RowAt.below h2' hW2 hc1
      clear g1 g2 h1 h2 h1' h2' hb hc
      have hb := RowAt.lt H1.out
      have hc := RowAt.lt H2.out
      by_cases hlm : l.length = m.length
      · have hle : ((l.length : Int) == (m.length : Int)) = true := by rw [hlm]; exact beq_self_eq_true _
        have HLM := hideT' hlm
        clear hlm
        go_wp2_with fail
        have hlm := HLM.out
        go_loopg [22] l.length (fun g i wr => ∃ k : Nat, g = l.length - k ∧ k ≤ l.length ∧ i = .int .i64 (k : Int) ∧ Hid (∀ j, j < k → dmEq (l.getD j default) (m.getD j default) = true) ∧ Below w.heap.size w wr)
        case atStart => exact ⟨0, rfl, by omega, rfl, fun j hj => by omega, Below.refl _ _⟩
        case round =>
          obtain ⟨k, hg, hk, rfl, HK, hW⟩ := hrel
          by_cases hlt : (k : Int) < (l.length : Int)
          · have hk' : k < l.length := by omega
            have hkm : k < m.length := by omega
            obtain ⟨d, hd⟩ : ∃ d, d = l.getD k default := ⟨_, rfl⟩
            obtain ⟨d', hd'⟩ : ∃ d', d' = m.getD k default := ⟨_, rfl⟩
            have HD1 := hideT' hd.symm
            have HD2 := hideT' hd'.symm
            have hS : DatAt wr.drew b l ∧ DatAt wr.drew c m := ⟨RowAt.below H1.out (Below.drew hW) hb, RowAt.below H2.out (Below.drew hW) hc⟩
            have hkm' : (k : Int) < (m.length : Int) := by omega
            clear hd hd'
            go_wp2_with fail
            refine held_begin (fun w' => DatAt w' b l ∧ DatAt w' c m) (by kernel_rfl) ?_
            refine held_val 0 (some 25) rfl rfl (by kernel_rfl) (by kernel_rfl) (by kernel_rfl) noPanic_put rfl (slV b l) (fun _ => rfl) hS ?_
            simp only [Act.put, List.setIfInBounds_toArray, List.set_cons_zero, List.set_cons_succ]
            refine held_val 1 (some 26) rfl rfl (by kernel_rfl) (by kernel_rfl) (by kernel_rfl) noPanic_put rfl (.int .i64 (k : Int)) (fun _ => rfl) hS ?_
            simp only [Act.put, List.setIfInBounds_toArray, List.set_cons_zero, List.set_cons_succ]
            refine held_val 2 (some 27) rfl rfl (by kernel_rfl) (by kernel_rfl) (by kernel_rfl) noPanic_put rfl (.pointer (some ⟨b, k * 3, none⟩)) (fun _ => by go_simp) hS ?_
            simp only [Act.put, List.setIfInBounds_toArray, List.set_cons_zero, List.set_cons_succ]
            refine held_valS 3 (some 28) rfl rfl (by kernel_rfl) (by kernel_rfl) (by kernel_rfl) noPanic_put rfl (.agg (dmC d)) (fun _ hw' => run_dm _ rfl b k rfl l hw'.1 hk' d HD1.out) hS ?_
            simp only [Act.put, List.setIfInBounds_toArray, List.set_cons_zero, List.set_cons_succ]
            refine held_val 4 (some 29) rfl rfl (by kernel_rfl) (by kernel_rfl) (by kernel_rfl) noPanic_put rfl (slV c m) (fun _ => rfl) hS ?_
            simp only [Act.put, List.setIfInBounds_toArray, List.set_cons_zero, List.set_cons_succ]
            refine held_val 5 (some 30) rfl rfl (by kernel_rfl) (by kernel_rfl) (by kernel_rfl) noPanic_put rfl (.int .i64 (k : Int)) (fun _ => rfl) hS ?_
            simp only [Act.put, List.setIfInBounds_toArray, List.set_cons_zero, List.set_cons_succ]
            refine held_val 6 (some 31) rfl rfl (by kernel_rfl) (by kernel_rfl) (by kernel_rfl) noPanic_put rfl (.pointer (some ⟨c, k * 3, none⟩)) (fun _ => by go_simp) hS ?_
            simp only [Act.put, List.setIfInBounds_toArray, List.set_cons_zero, List.set_cons_succ]
            refine held_valS 7 (some 32) rfl rfl (by kernel_rfl) (by kernel_rfl) (by kernel_rfl) noPanic_put rfl (.agg (dmC d')) (fun _ hw' => run_dm _ rfl c k rfl m hw'.2 hkm d' HD2.out) hS ?_
            simp only [Act.put, List.setIfInBounds_toArray, List.set_cons_zero, List.set_cons_succ]
            refine held_val 8 (some 33) rfl rfl (by kernel_rfl) (by kernel_rfl) (by kernel_rfl) noPanic_put rfl (.bool (!dmEq d d')) (fun _ => run_neq _ _ rfl d d' rfl rfl) hS ?_
            simp only [Act.put, List.setIfInBounds_toArray, List.set_cons_zero, List.set_cons_succ]
            refine wpAnyH_done (by kernel_rfl) ?_ _
            refine NoPanic.normal ?_
            cases he : dmEq d d' with
            | true =>
              have HK2 : Hid (∀ j, j < k + 1 → dmEq (l.getD j default) (m.getD j default) = true) := fun j hj => by
                by_cases e : j = k
                · subst e; rw [HD1.out, HD2.out]; exact he
                · exact HK.out j (by omega)
              clear he
              go_wp2
              go_roundg (l.length - (k + 1))
              case measure => omega
              case rel => exact ⟨k + 1, rfl, by omega, by go_num, HK2, Below.drew hW⟩
            | false =>
              have HN : Hid (sameD l m = false) := sameD_no hk' (by rw [HD1.out, HD2.out]; exact he)
              clear he
              go_wp2
              go_ret2
              exact ⟨by rw [HN0.out, HN.out]; rfl, hB2.trans ((Below.drew hW).mono hB2.size)⟩
          · have HY : Hid (sameD l m = true) := sameD_yes hlm (fun j hj => HK.out j (by omega))
            go_wp2
            go_ret2
            exact ⟨by rw [HN0.out, HY.out]; rfl, hB2.trans (hW.mono hB2.size)⟩
      · have hle : ((l.length : Int) == (m.length : Int)) = false := beq_eq_false_iff_ne.2 (by omega)
        have HN := hideT' (sameD_len hlm)
        clear hlm
        go_wp2
        go_ret2
        exact ⟨by rw [HN0.out, HN.out]; rfl, hB2⟩
end Go.Proofs.YtkhabnficogbjaaGreatDoor

/-
  Data that came in as an argument: what its reading says of the cells.
-/
namespace Go.Proofs.YtkhabnficogbjaaGreatDoor
open Go.ChangeShapes Go.WideShapes Go.ChangeAt Go.RowKit
set_option linter.unusedVariables false

theorem laidOut : laidOutB Tryz.prog = true := by kernel_rfl
theorem cells_ldm : Tryz.prog.cellsOf 40 = 3 := by kernel_rfl
theorem cells_int : Tryz.prog.cellsOf 3 = 1 := by kernel_rfl
theorem cells_str : Tryz.prog.cellsOf 9 = 1 := by kernel_rfl

set_option maxRecDepth 100000 in
theorem open_node {H : Type} {enc : TypeId × Value → H} {W : World} {n : Nat} {cs : List Value} {x : DataW H × List MemPlace} (hl : cs.length = 3) (h : DataW.trod enc Tryz.prog W 0 (fun _ => true) true n 40 cs = some x) :
    ∃ d : Dm, cs = dmL d ∧ d.t.size ≤ maxLen := by
  obtain ⟨y0, y1, y2, m, _, _, h0, h1, h2⟩ := Deep.trod_struct3 Tryz.underlying40 h
  obtain ⟨a, b, c, rfl⟩ : ∃ a b c, cs = [a, b, c] := by
    cases cs with
    | nil => cases hl
    | cons a cs => cases cs with
      | nil => cases hl
      | cons b cs => cases cs with
        | nil => cases hl
        | cons c cs => cases cs with
          | nil => exact ⟨a, b, c, rfl⟩
          | cons _ _ => simp at hl
  · have g0 : DataW.trod enc Tryz.prog W 0 (fun _ => true) true m 3 (([a, b, c].drop 0).take (Tryz.prog.cellsOf 3)) = some y0 := h0
    have g1 : DataW.trod enc Tryz.prog W 0 (fun _ => true) true m 9 (([a, b, c].drop 1).take (Tryz.prog.cellsOf 9)) = some y1 := h1
    have g2 : DataW.trod enc Tryz.prog W 0 (fun _ => true) true m 3 (([a, b, c].drop 2).take (Tryz.prog.cellsOf 3)) = some y2 := h2
    rw [cells_int] at g0 g2
    rw [cells_str] at g1
    obtain ⟨k, e0, _, _⟩ := DataW.trod_int Tryz.underlying3 g0
    obtain ⟨t, e1, _, ht⟩ := DataW.trod_string Tryz.underlying9 g1
    obtain ⟨u, e2, _, _⟩ := DataW.trod_int Tryz.underlying3 g2
    simp at e0 e1 e2
    exact ⟨⟨k, t, u⟩, by rw [e0, e1, e2]; rfl, ht⟩

set_option maxRecDepth 100000 in
theorem open_data {H : Type} {enc : TypeId × Value → H} {W : World} {base : Nat} {v : Value} {d : DataW H} {ps : List MemPlace} (hval : Value.okWide Tryz.prog W .any base 22 v) (h : DataW.Trod enc Tryz.prog W 0 (fun _ => true) true 22 v d ps) :
    ∃ l : List Dm, SlIn W v l ∧ (∀ i, i < l.length → (dt l i).size ≤ maxLen) ∧ l.length ≤ maxLen := by
  obtain ⟨a0, len, cap, rfl⟩ := okWide_slice Tryz.underlying22 hval
  obtain ⟨fuel, hf⟩ := h
  rcases Deep.open_slice Tryz.underlying22 hf with ⟨h1, _⟩ | ⟨a, len', cap', m, n, D, Pl, h1, hb, hl, hm, hmm, hx, hel⟩
  · refine ⟨[], .inl ⟨?_, rfl⟩, fun i hi => by simp at hi, by unfold maxLen; simp⟩
    simpa [Value.cells] using h1
  · have hs : Value.slice a0 len cap = .slice (some a) len' cap' := by simpa [Value.cells] using h1
    rw [hs]
    have hlm : len' ≤ m := by rw [hmm]; simp; exact hl
    have each : ∀ i, i < len' → ∃ d : Dm, W.cells? 0 (a.add (i * 3)) 3 = some (dmL d) ∧ d.t.size ≤ maxLen := fun i hi => by
      obtain ⟨cs', g1, g2⟩ := hel i (by omega)
      rw [cells_ldm] at g1
      obtain ⟨_, hlen, _⟩ := World.cells?_some g1
      obtain ⟨d, rfl, ht⟩ := open_node hlen g2
      exact ⟨d, g1, ht⟩
    obtain ⟨f, hfl⟩ := Deep.choose_lt each
    have hlen : ((List.range len').map f).length = len' := by simp
    have hget : ∀ i, i < len' → ((List.range len').map f).getD i default = f i := fun i hi => by simp [List.getD, hi]
    refine ⟨(List.range len').map f, .inr ⟨a, cap', by rw [hlen], fun i j v hi hv => ?_, fun h0 => ?_⟩, fun i hi => ?_, by rw [hlen]; omega⟩
    · rw [hlen] at hi
      rw [hget i hi] at hv
      obtain ⟨_, _, hc⟩ := World.cells?_some (hfl i hi).1
      have hj : j < 3 := by
        have := (List.getElem?_eq_some_iff.1 hv).1
        simpa [dmL] using this
      rw [hc j hj]
      exact hv
    · rw [hlen] at h0
      obtain ⟨_, _, hc⟩ := World.cells?_some (hfl 0 h0).1
      have h2 := hc 0 (by decide)
      have h3 : W.cell? ((a.add (0 * 3)).add 0) = some (.int .i64 (f 0).k) := by rw [h2]; rfl
      exact block_lt_of_cell (a := a) (by simpa [Addr.add] using h3)
    · rw [hlen] at hi
      unfold dt
      rw [hget i hi]
      exact (hfl i hi).2
end Go.Proofs.YtkhabnficogbjaaGreatDoor
