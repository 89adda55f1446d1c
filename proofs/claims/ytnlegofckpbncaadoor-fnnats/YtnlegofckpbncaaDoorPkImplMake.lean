/-
  The texts ImplMake, SpecMake, ImplDiv, ImplGcdNat, ImplSub, ImplToRadix, SpecDivNat, one behind the other.
-/
import Derived.Test.YtnlegofckpbncaaDoorPkImplDigits
import Derived.Test.YtnlegofckpbncaaDoorPkHeld
import Derived.Test.YtnlegofckpbncaaDoorImplAdd
import Derived.Test.YtnlegofckpbncaaDoorPkSpecAdd
import Derived.Test.YtnlegofckpbncaaDoorPkSpecSub
import Derived.Test.YtnlegofckpbncaaDoorPkDivideA
import Derived.Test.YtnlegofckpbncaaDoorText
import Derived.OwnWalk

/-
  What impl.MakeNum answers.
-/
namespace Go.Proofs.YtnlegofckpbncaaDoor
open Go.RowKit
set_option linter.unusedVariables false

/-- What MakeNum should answer. -/
def makeOk (a b : ByteArray) : Bool := (goodB a.data.toList && goodB b.data.toList) && decide (dval b.data.toList ≠ 0)
def MakeAns (g : Bool) (a b : ByteArray) (e : Ending) : Prop :=
  (makeOk a b = true ∧ TellsN (g && decide (dval a.data.toList ≠ 0)) (dval a.data.toList / Nat.gcd (dval a.data.toList) (dval b.data.toList)) (dval b.data.toList / Nat.gcd (dval a.data.toList) (dval b.data.toList)) e) ∨ (makeOk a b = false ∧ Mute e)
theorem MakeAns.same {g : Bool} {a b : ByteArray} {e e' : Ending} (h : MakeAns g a b e) (h' : MakeAns g a b e') : ∃ (s : ByteArray) (o : Bool), e = .returned (.tuple #[.string s, .bool o]) ∧ e' = .returned (.tuple #[.string s, .bool o]) := by
  rcases h with ⟨g1, h⟩ | ⟨g1, h⟩ <;> rcases h' with ⟨g2, h'⟩ | ⟨g2, h'⟩
  · exact h.same h'
  · rw [g1] at g2; cases g2
  · rw [g1] at g2; cases g2
  · exact h.same h'

end Go.Proofs.YtnlegofckpbncaaDoor

/-
  What spec.l2Make and spec.MakeNum answer.
-/
namespace Go.Proofs.YtnlegofckpbncaaDoor
open Go.RowKit
set_option linter.unusedVariables false

theorem one_lt (k : Nat) (hk : k ≠ 0) : 1 < 10 ^ k := Nat.one_lt_pow hk (by decide)

theorem make_tells {g : Bool} {a b t u s : ByteArray} {G : Nat} (h0 : dval a.data.toList ≠ 0) (hC : canonB t.data.toList = true ∧ dval t.data.toList = dval a.data.toList / G ∧ canonB u.data.toList = true ∧ dval u.data.toList = dval b.data.toList / G) (h1 : t.size ≤ 600) (h2 : u.size ≤ 600)
    (h : s.data.toList = (if g then [45] else []) ++ t.data.toList ++ (if dval b.data.toList / G = 1 then [] else 47 :: u.data.toList)) : TellsN (g && decide (dval a.data.toList ≠ 0)) (dval a.data.toList / G) (dval b.data.toList / G) (.returned (.tuple #[.string s, .bool true])) := by
  rw [decide_eq_true h0, Bool.and_true]
  refine TellsN.yes ?_ ?_ ⟨t, u, InRad.dec hC.1 hC.2.1, InRad.dec hC.2.2.1 hC.2.2.2, h⟩
  · rw [← hC.2.1]; exact (canon_len_le hC.1 600 (by omega)).1 (by simpa using h1)
  · rw [← hC.2.2.2]; exact (canon_len_le hC.2.2.1 600 (by omega)).1 (by simpa using h2)

end Go.Proofs.YtnlegofckpbncaaDoor

/-
  What impl.DivNat answers.
-/
namespace Go.Proofs.YtnlegofckpbncaaDoor
open Go.RowKit
set_option linter.unusedVariables false

/-- It tells two numbers. -/
def Tells2 (n m : Nat) (e : Ending) : Prop := ∃ s t : ByteArray, e = .returned (.tuple #[.string s, .string t, .bool true]) ∧ canonB s.data.toList = true ∧ dval s.data.toList = n ∧ canonB t.data.toList = true ∧ dval t.data.toList = m
def Mute2 (e : Ending) : Prop := e = .returned (.tuple #[.string ⟨#[]⟩, .string ⟨#[]⟩, .bool false])
def Ans2 (g : Bool) (n m : Nat) (e : Ending) : Prop := (g = true ∧ Tells2 n m e) ∨ (g = false ∧ Mute2 e)
theorem Ans2.same {g : Bool} {n m : Nat} {e e' : Ending} (h : Ans2 g n m e) (h' : Ans2 g n m e') : ∃ (s t : ByteArray) (o : Bool), e = .returned (.tuple #[.string s, .string t, .bool o]) ∧ e' = .returned (.tuple #[.string s, .string t, .bool o]) := by
  rcases h with ⟨g1, h⟩ | ⟨g1, h⟩ <;> rcases h' with ⟨g2, h'⟩ | ⟨g2, h'⟩
  · obtain ⟨s, t, rfl, c1, v1, c2, v2⟩ := h
    obtain ⟨s', t', rfl, c1', v1', c2', v2'⟩ := h'
    obtain rfl : s = s' := Go.WideShapes.bytes_inj (canon_inj c1 c1' (by rw [v1, v1']))
    obtain rfl : t = t' := Go.WideShapes.bytes_inj (canon_inj c2 c2' (by rw [v2, v2']))
    exact ⟨s, t, true, rfl, rfl⟩
  · rw [g1] at g2; cases g2
  · rw [g1] at g2; cases g2
  · exact ⟨_, _, _, h, h'⟩

/-- May a be divided by b? -/
def divOk (a b : ByteArray) : Bool := (goodB a.data.toList && goodB b.data.toList) && decide (dval b.data.toList ≠ 0)

set_option maxHeartbeats 1000000 in
set_option maxRecDepth 100000 in
theorem implDiv_any (a b : ByteArray) (w : World) (hsa : a.size ≤ maxLen) (hsb : b.size ≤ maxLen) (hT : Tab w.heap.size w) :
    Calls Tryd.prog 11 #[.string a, .string b] w fun e w' => Ans2 (divOk a b) (dval a.data.toList / dval b.data.toList) (dval a.data.toList % dval b.data.toList) e ∧ Below w.heap.size w w' := by
  have hz := zero_nat.1
  have HT : Hid (Tab w.heap.size w) := hT
  clear hT
  go_enter Tryd.func11, Tryd.ntmps11
  go_wp2_with fail
  refine (readNats_any a b _ hsa hsb).mono ?_
  rintro e w1 ⟨k, m, p, q, oa, ob, rfl, hRa, hRb, hW1⟩
  have hp := hRa.len
  have hq := hRb.len
  have hs1 := hW1.size
  have A := (NatAt.new w1 0 zP).old (.cells (natC 0 zP) 37)
  have B := NatAt.new (w1.alloc (.cells (natC 0 zP) 37)) 0 zP
  have hB : Below w.heap.size w ((w1.alloc (.cells (natC 0 zP) 37)).alloc (.cells (natC 0 zP) 37)) := (hW1.alloc (by omega) _).alloc (by simp; omega) _
  simp only [World.size_alloc] at B
  have hok : oa = goodB a.data.toList := hRa.ok
  have hok' : ob = goodB b.data.toList := hRb.ok
  cases hg : (oa && ob) with
  | true =>
    have HG : Hid ((goodB a.data.toList && goodB b.data.toList) = true) := by unfold Hid; rw [← hok, ← hok']; exact hg
    have hga : goodB a.data.toList = true := by have := HG.out; simp only [Bool.and_eq_true] at this; exact this.1
    have hgb : goodB b.data.toList = true := by have := HG.out; simp only [Bool.and_eq_true] at this; exact this.2
    have ra : Rep (dval a.data.toList) k p := hRa.rep hga
    have rb : Rep (dval b.data.toList) m q := hRb.rep hgb
    have hk := ra.small (good_lt hga)
    have hm := rb.small (good_lt hgb)
    have RA := hideT (And.intro ra rb)
    clear hg hga hgb ra rb
    by_cases hm0 : m = 0
    · have HG2 : Hid (divOk a b = false) := by
        unfold Hid divOk
        rw [HG.out, RA.out.2.zero_iff.1 hm0]; rfl
      have hm0' : ((m : Int) == 0) = true := by simp [hm0]
      subst hm0
      go_wp2_with (first | (refine store_nat rfl _ _ rfl rfl w1.heap.size k p rfl rfl 0 zP A zP_len hp ?_; intro w2 hN2 hg2 hs2) | (refine store_nat rfl _ _ rfl rfl (w1.heap.size + 1) _ q rfl rfl 0 zP (B.grown hg2 (by simp)) zP_len hq ?_; intro w3 hN3 hg3 hs3; have c0 := hN3.c0))
      go_ret3
      exact ⟨.inr ⟨HG2.out, rfl⟩, (hB.grown hg2 (by simp; omega) (by intro k hk; cases hk; omega)).grown hg3 (by rw [hs2]; simp; omega) (by intro k hk; cases hk; omega)⟩
    · have hm0' : ((m : Int) == 0) = false := by simp [hm0]
      have HG2 : Hid (divOk a b = true) := by
        unfold Hid divOk
        rw [HG.out]
        have h1 : dval b.data.toList ≠ 0 := fun e => hm0 (RA.out.2.zero_iff.2 e)
        simp [h1]
      go_wp2_with (first | (refine store_nat rfl _ _ rfl rfl w1.heap.size k p rfl rfl 0 zP A zP_len hp ?_; intro w2 hN2 hg2 hs2) | (refine store_nat rfl _ _ rfl rfl (w1.heap.size + 1) m q rfl rfl 0 zP (B.grown hg2 (by simp)) zP_len hq ?_; intro w3 hN3 hg3 hs3; have c0 := hN3.c0) | (refine load_nat rfl _ rfl w1.heap.size rfl k p (hN2.grown hg3 (by simp)) hp ?_) | (refine load_nat rfl _ rfl (w1.heap.size + 1) rfl m q hN3 hq ?_))
      refine (divide_any w3 RA.out.1 RA.out.2 (by omega) (by omega)).mono ?_
      rintro e w4 ⟨i, j, r, s, rfl, hR, hS, hW4⟩
      have hB3 : Below w.heap.size w w3 := (hB.grown hg2 (by simp; omega) (by intro k hk; cases hk; omega)).grown hg3 (by rw [hs2]; simp; omega) (by intro k hk; cases hk; omega)
      have hs3' := hB3.size
      have hB4 : Below w.heap.size w w4 := hB3.trans (hW4.mono (by omega))
      have hs4 := hB4.size
      have hr := hR.len
      have hs := hS.len
      have HR := hideT (And.intro hR hS)
      clear A B hB hN2 hg2 hs2 hN3 hg3 hB3 hW4 hR hS c0
      have F1 := (NatAt.new w4 0 zP).old (.cells (natC 0 zP) 37)
      have F2 := NatAt.new (w4.alloc (.cells (natC 0 zP) 37)) 0 zP
      simp only [World.size_alloc] at F2
      go_wp2_with (first | (refine store_nat rfl _ _ rfl rfl w4.heap.size i r rfl rfl 0 zP F1 zP_len hr ?_; intro w5 hN5 hg5 hs5) | (refine store_nat rfl _ _ rfl rfl (w4.heap.size + 1) j s rfl rfl 0 zP (F2.grown hg5 (by simp)) zP_len hs ?_; intro w6 hN6 hg6 hs6) | (refine load_nat rfl _ rfl w4.heap.size rfl i r (hN5.grown hg6 (by simp)) hr ?_))
      have hs6' : w6.heap.size = w4.heap.size + 1 + 1 := by rw [hs6, hs5]; simp
      have hN56 := hN5.grown hg6 (by first | (simp; done) | (simp; omega))
      have hW6 : Below w.heap.size w w6 := (((hB4.alloc (by omega) _).alloc (by first | (simp; done) | (simp; omega)) _).grown hg5 (by first | (simp; done) | (simp; omega)) (by intro k hk; cases hk; omega)).grown hg6 (by rw [hs5]; simp; omega) (by intro k hk; cases hk; omega)
      have HT6 : Hid (Tab w6.drew.heap.size w6.drew) := (HT.out.on hW6.drew).up (hW6.drew).size
      clear F1 F2 hB4 hs4 hN5 hg5 hs5 hg6 hs6
      refine held_begin (fun w' => NatAt w' w4.heap.size i r ∧ NatAt w' (w4.heap.size + 1) j s) (by kernel_rfl) ?_
      have hS : NatAt w6.drew w4.heap.size i r ∧ NatAt w6.drew (w4.heap.size + 1) j s := ⟨hN56, hN6⟩
      refine held_load 0 (some 32) rfl rfl (by kernel_rfl) (by kernel_rfl) (by kernel_rfl) noPanic_put rfl _ rfl w4.heap.size rfl i r (fun _ h => h.1) hr hS ?_
      simp only [Act.put, List.setIfInBounds_toArray, List.set_cons_zero, List.set_cons_succ]
      refine held_load 2 (some 34) rfl rfl (by kernel_rfl) (by kernel_rfl) (by kernel_rfl) noPanic_put rfl _ rfl (w4.heap.size + 1) rfl j s (fun _ h => h.2) hs hS ?_
      simp only [Act.put, List.setIfInBounds_toArray, List.set_cons_zero, List.set_cons_succ]
      refine held_call 1 (some 33) (by kernel_rfl) rfl rfl rfl 29 #[.agg (natC i r)] (by go_simp) _ (text_any w6.drew HR.out.1 HT6.out) ?_
      rintro e w7 ⟨s1, rfl, c1, v1, hW7⟩
      have hW7 : Below w6.heap.size w6 w7 := ⟨hW7.os, hW7.tape, hW7.output, hW7.size, hW7.block⟩
      have hS7 : NatAt w7 w4.heap.size i r ∧ NatAt w7 (w4.heap.size + 1) j s := ⟨hN56.below hW7 (by omega), hN6.below hW7 (by omega)⟩
      have hW7' : Below w.heap.size w w7 := hW6.trans (hW7.mono hW6.size)
      have HT7 : Hid (Tab w7.heap.size w7) := (HT.out.on hW7').up hW7'.size
      refine ⟨_, rfl, hS7, ?_⟩
      simp only [Act.put, List.setIfInBounds_toArray, List.set_cons_zero, List.set_cons_succ]
      refine held_call 3 (some 35) (by kernel_rfl) rfl rfl rfl 29 #[.agg (natC j s)] (by go_simp) _ (text_any w7 HR.out.2 HT7.out) ?_
      rintro e w8 ⟨s2, rfl, c2, v2, hW8⟩
      have hS8 : NatAt w8 w4.heap.size i r ∧ NatAt w8 (w4.heap.size + 1) j s := ⟨hS7.1.below hW8 (by have := hW7.size; omega), hS7.2.below hW8 (by have := hW7.size; omega)⟩
      refine ⟨_, rfl, hS8, ?_⟩
      simp only [Act.put, List.setIfInBounds_toArray, List.set_cons_zero, List.set_cons_succ]
      refine held_assign 4 (some 4) (by kernel_rfl) rfl rfl _ rfl rfl (.string s1) rfl hS8 ?_
      simp only [Act.put, List.setIfInBounds_toArray, List.set_cons_zero, List.set_cons_succ]
      refine held_assign 5 (some 5) (by kernel_rfl) rfl rfl _ rfl rfl (.string s2) rfl hS8 ?_
      simp only [Act.put, List.setIfInBounds_toArray, List.set_cons_zero, List.set_cons_succ]
      refine held_assign 6 (some 6) (by kernel_rfl) rfl rfl _ rfl rfl (.bool true) rfl hS8 ?_
      simp only [Act.put, List.setIfInBounds_toArray, List.set_cons_zero, List.set_cons_succ]
      refine wpAnyH_done (by kernel_rfl) ?_ _
      refine NoPanic.normal ?_
      go_wp2
      go_ret3
      exact ⟨.inl ⟨HG2.out, s1, s2, rfl, c1, v1, c2, v2⟩, hW7'.trans (hW8.mono hW7'.size)⟩
  | false =>
    have HG : Hid (divOk a b = false) := by unfold Hid divOk; rw [← hok, ← hok', hg]; rfl
    clear hg
    go_wp2_with (first | (refine store_nat rfl _ _ rfl rfl w1.heap.size k p rfl rfl 0 zP A zP_len hp ?_; intro w2 hN2 hg2 hs2) | (refine store_nat rfl _ _ rfl rfl (w1.heap.size + 1) m q rfl rfl 0 zP (B.grown hg2 (by simp)) zP_len hq ?_; intro w3 hN3 hg3 hs3))
    go_ret3
    exact ⟨.inr ⟨HG.out, rfl⟩, (hB.grown hg2 (by simp; omega) (by intro k hk; cases hk; omega)).grown hg3 (by rw [hs2]; simp; omega) (by intro k hk; cases hk; omega)⟩
end Go.Proofs.YtnlegofckpbncaaDoor

/-
  What impl.GcdNat answers.
-/
namespace Go.Proofs.YtnlegofckpbncaaDoor
open Go.RowKit
set_option linter.unusedVariables false

set_option maxHeartbeats 1000000 in
set_option maxRecDepth 100000 in
theorem implGcd_any (a b : ByteArray) (w : World) (hsa : a.size ≤ maxLen) (hsb : b.size ≤ maxLen) (hT : Tab w.heap.size w) :
    Calls Tryd.prog 12 #[.string a, .string b] w fun e w' => Ans (goodB a.data.toList && goodB b.data.toList) (Nat.gcd (dval a.data.toList) (dval b.data.toList)) e ∧ Below w.heap.size w w' := by
  have hz := zero_nat.1
  have HT : Hid (Tab w.heap.size w) := hT
  clear hT
  go_enter Tryd.func12, Tryd.ntmps12
  go_wp2_with fail
  refine (readNats_any a b _ hsa hsb).mono ?_
  rintro e w1 ⟨k, m, p, q, oa, ob, rfl, hRa, hRb, hW1⟩
  have hp := hRa.len
  have hq := hRb.len
  have hs1 := hW1.size
  have A := (NatAt.new w1 0 zP).old (.cells (natC 0 zP) 37)
  have B := NatAt.new (w1.alloc (.cells (natC 0 zP) 37)) 0 zP
  have hB : Below w.heap.size w ((w1.alloc (.cells (natC 0 zP) 37)).alloc (.cells (natC 0 zP) 37)) := (hW1.alloc (by omega) _).alloc (by simp; omega) _
  simp only [World.size_alloc] at B
  have hok : oa = goodB a.data.toList := hRa.ok
  have hok' : ob = goodB b.data.toList := hRb.ok
  cases hg : (oa && ob) with
  | true =>
    have HG : Hid ((goodB a.data.toList && goodB b.data.toList) = true) := by unfold Hid; rw [← hok, ← hok']; exact hg
    have hga : goodB a.data.toList = true := by have := HG.out; simp only [Bool.and_eq_true] at this; exact this.1
    have hgb : goodB b.data.toList = true := by have := HG.out; simp only [Bool.and_eq_true] at this; exact this.2
    have ra : Rep (dval a.data.toList) k p := hRa.rep hga
    have rb : Rep (dval b.data.toList) m q := hRb.rep hgb
    have hk := ra.small (good_lt hga)
    have hm := rb.small (good_lt hgb)
    have RA := hideT (And.intro ra rb)
    clear hg hga hgb ra rb
    go_wp2_with (first | (refine store_nat rfl _ _ rfl rfl w1.heap.size k p rfl rfl 0 zP A zP_len hp ?_; intro w2 hN2 hg2 hs2) | (refine store_nat rfl _ _ rfl rfl (w1.heap.size + 1) m q rfl rfl 0 zP (B.grown hg2 (by simp)) zP_len hq ?_; intro w3 hN3 hg3 hs3) | (refine load_nat rfl _ rfl w1.heap.size rfl k p (hN2.grown hg3 (by simp)) hp ?_) | (refine load_nat rfl _ rfl (w1.heap.size + 1) rfl m q hN3 hq ?_))
    refine (gcd_any w3 RA.out.1 RA.out.2 (by omega) (by omega)).mono ?_
    rintro e w4 ⟨i, r, rfl, hR, hW4⟩
    have hB3 : Below w.heap.size w w3 := (hB.grown hg2 (by simp; omega) (by intro k hk; cases hk; omega)).grown hg3 (by rw [hs2]; simp; omega) (by intro k hk; cases hk; omega)
    have hs3 := hB3.size
    have hB4 : Below w.heap.size w w4 := hB3.trans (hW4.mono (by omega))
    have hs4 := hB4.size
    have HR := hideT hR
    have HT4 : Hid (Tab w4.heap.size w4) := (HT.out.on hB4).up hs4
    clear A B hB hN2 hg2 hs2 hN3 hg3 hB3 hW4 hR
    go_wp2_with fail
    refine (tellNat_any w4 HR.out HT4.out).mono ?_
    rintro e w5 ⟨s, rfl, h1, h2, hW5⟩
    have HS := hideT (And.intro h1 h2)
    obtain ⟨bb, hbb⟩ : ∃ bb, bb = decide (Nat.gcd (dval a.data.toList) (dval b.data.toList) < 10 ^ 600) := ⟨_, rfl⟩
    rw [← hbb]
    have HBB := hideT hbb
    clear hbb h1 h2
    go_wp2
    go_ret2
    exact ⟨.inl ⟨HG.out, s, by rw [← HBB.out]; rfl, HS.out.1, HS.out.2⟩, hB4.trans (hW5.mono hs4)⟩
  | false =>
    have HG : Hid ((goodB a.data.toList && goodB b.data.toList) = false) := by unfold Hid; rw [← hok, ← hok']; exact hg
    clear hg
    go_wp2_with (first | (refine store_nat rfl _ _ rfl rfl w1.heap.size k p rfl rfl 0 zP A zP_len hp ?_; intro w2 hN2 hg2 hs2) | (refine store_nat rfl _ _ rfl rfl (w1.heap.size + 1) m q rfl rfl 0 zP (B.grown hg2 (by simp)) zP_len hq ?_; intro w3 hN3 hg3 hs3))
    go_ret2
    exact ⟨.inr ⟨HG.out, rfl⟩, (hB.grown hg2 (by simp; omega) (by intro k hk; cases hk; omega)).grown hg3 (by rw [hs2]; simp; omega) (by intro k hk; cases hk; omega)⟩
end Go.Proofs.YtnlegofckpbncaaDoor

/-
  What impl.SubNat answers.
-/
namespace Go.Proofs.YtnlegofckpbncaaDoor
open Go.RowKit
set_option linter.unusedVariables false

set_option maxHeartbeats 1000000 in
set_option maxRecDepth 100000 in
theorem implSub_any (a b : ByteArray) (w : World) (hsa : a.size ≤ maxLen) (hsb : b.size ≤ maxLen) (hT : Tab w.heap.size w) :
    Calls Tryd.prog 7 #[.string a, .string b] w fun e w' => Ans (subOk a b) (dval a.data.toList - dval b.data.toList) e ∧ Below w.heap.size w w' := by
  have hz := zero_nat.1
  have HT : Hid (Tab w.heap.size w) := hT
  clear hT
  go_enter Tryd.func7, Tryd.ntmps7
  go_wp2_with fail
  refine (readNats_any a b _ hsa hsb).mono ?_
  rintro e w1 ⟨k, m, p, q, oa, ob, rfl, hRa, hRb, hW1⟩
  have hp := hRa.len
  have hq := hRb.len
  have hs1 := hW1.size
  have A := (NatAt.new w1 0 zP).old (.cells (natC 0 zP) 37)
  have B := NatAt.new (w1.alloc (.cells (natC 0 zP) 37)) 0 zP
  have hB : Below w.heap.size w ((w1.alloc (.cells (natC 0 zP) 37)).alloc (.cells (natC 0 zP) 37)) := (hW1.alloc (by omega) _).alloc (by simp; omega) _
  simp only [World.size_alloc] at B
  have hok : oa = goodB a.data.toList := hRa.ok
  have hok' : ob = goodB b.data.toList := hRb.ok
  cases hg : (oa && ob) with
  | true =>
    have HG : Hid ((goodB a.data.toList && goodB b.data.toList) = true) := by unfold Hid; rw [← hok, ← hok']; exact hg
    have hga : goodB a.data.toList = true := by have := HG.out; simp only [Bool.and_eq_true] at this; exact this.1
    have hgb : goodB b.data.toList = true := by have := HG.out; simp only [Bool.and_eq_true] at this; exact this.2
    have ra : Rep (dval a.data.toList) k p := hRa.rep hga
    have rb : Rep (dval b.data.toList) m q := hRb.rep hgb
    have hk := ra.small (good_lt hga)
    have hm := rb.small (good_lt hgb)
    have RA := hideT (And.intro ra rb)
    clear hg hga hgb ra rb
    go_wp2_with (first | (refine store_nat rfl _ _ rfl rfl w1.heap.size k p rfl rfl 0 zP A zP_len hp ?_; intro w2 hN2 hg2 hs2) | (refine store_nat rfl _ _ rfl rfl (w1.heap.size + 1) m q rfl rfl 0 zP (B.grown hg2 (by simp)) zP_len hq ?_; intro w3 hN3 hg3 hs3) | (refine load_nat rfl _ rfl w1.heap.size rfl k p (hN2.grown hg3 (by simp)) hp ?_) | (refine load_nat rfl _ rfl (w1.heap.size + 1) rfl m q hN3 hq ?_))
    refine (minus_any 1 0 w3 RA.out.1 RA.out.2 (by omega) (by omega) (by omega) (by omega)).mono ?_
    have hB3 : Below w.heap.size w w3 := (hB.grown hg2 (by simp; omega) (by intro k hk; cases hk; omega)).grown hg3 (by rw [hs2]; simp; omega) (by intro k hk; cases hk; omega)
    have hs3' := hB3.size
    clear A B hB hN2 hg2 hs2 hN3 hg3 hs3
    rintro e w4 (⟨i, r, x, rfl, hR, hx, hW4⟩ | ⟨rfl, hx, hW4⟩)
    · have hB4 : Below w.heap.size w w4 := hB3.trans (hW4.mono (by omega))
      have hs4 := hB4.size
      have hrl := hR.len
      simp only [Int.pow_zero, Int.one_mul] at hx
      have hab : dval b.data.toList ≤ dval a.data.toList := by omega
      have hxx : x = dval a.data.toList - dval b.data.toList := by omega
      have HK : Hid (subOk a b = true) := by unfold Hid subOk; rw [HG.out, decide_eq_true hab]; rfl
      have HX := hideT hxx
      have HR := hideT hR
      have C := NatAt.new w4 0 zP
      clear hB3 hW4 hR hx hxx hab
      go_wp2_with (first | (refine store_nat rfl _ _ rfl rfl w4.heap.size i r rfl rfl 0 zP C zP_len hrl ?_; intro w5 hN5 hg5 hs5) | (refine load_nat rfl _ rfl w4.heap.size rfl i r hN5 hrl ?_))
      have hB5 : Below w.heap.size w w5 := (hB4.alloc hs4 _).grown hg5 (by simp; omega) (by intro k hk; cases hk; omega)
      have hs5' := hB5.size
      have HT5 : Hid (Tab w5.heap.size w5) := (HT.out.on hB5).up hs5'
      refine (tellNat_any w5 HR.out HT5.out).mono ?_
      rintro e w6 ⟨s, rfl, h1, h2, hW6⟩
      have HS := hideT (And.intro h1 h2)
      obtain ⟨bb, hbb⟩ : ∃ bb, bb = decide (x < 10 ^ 600) := ⟨_, rfl⟩
      rw [← hbb]
      have HBB := hideT hbb
      clear hbb h1 h2
      go_wp2
      go_ret2
      have hxx := HX.out
      refine ⟨.inl ⟨HK.out, s, ?_, ?_, ?_⟩, hB5.trans (hW6.mono hs5')⟩
      · rw [← hxx, ← HBB.out]; rfl
      · rw [← hxx]; exact HS.out.1
      · rw [← hxx]; exact HS.out.2
    · have hB4 : Below w.heap.size w w4 := hB3.trans (hW4.mono (by omega))
      have hs4 := hB4.size
      simp only [Int.pow_zero, Int.one_mul] at hx
      have HK : Hid (subOk a b = false) := by unfold Hid subOk; rw [HG.out, decide_eq_false (by omega)]; rfl
      have C := NatAt.new w4 0 zP
      clear hB3 hW4 hx
      go_wp2_with (refine store_nat rfl _ _ rfl rfl w4.heap.size 0 zP rfl rfl 0 zP C zP_len zP_len ?_; intro w5 hN5 hg5 hs5)
      have hB5 : Below w.heap.size w w5 := (hB4.alloc hs4 _).grown hg5 (by simp; omega) (by intro k hk; cases hk; omega)
      go_ret2
      exact ⟨.inr ⟨HK.out, rfl⟩, hB5⟩
  | false =>
    have HG : Hid ((goodB a.data.toList && goodB b.data.toList) = false) := by unfold Hid; rw [← hok, ← hok']; exact hg
    clear hg
    go_wp2_with (first | (refine store_nat rfl _ _ rfl rfl w1.heap.size k p rfl rfl 0 zP A zP_len hp ?_; intro w2 hN2 hg2 hs2) | (refine store_nat rfl _ _ rfl rfl (w1.heap.size + 1) m q rfl rfl 0 zP (B.grown hg2 (by simp)) zP_len hq ?_; intro w3 hN3 hg3 hs3))
    go_ret2
    exact ⟨.inr ⟨by unfold subOk; rw [HG.out]; rfl, rfl⟩, (hB.grown hg2 (by simp; omega) (by intro k hk; cases hk; omega)).grown hg3 (by rw [hs2]; simp; omega) (by intro k hk; cases hk; omega)⟩
end Go.Proofs.YtnlegofckpbncaaDoor

/-
  What impl.ToRadix and spec.ToRadix answer.
-/
namespace Go.Proofs.YtnlegofckpbncaaDoor
open Go.RowKit
set_option linter.unusedVariables false

/-- What ToRadix should answer. -/
def AnsR (a : ByteArray) (r : Int) (e : Ending) : Prop :=
  ((goodB a.data.toList && radOk r) = true ∧ ∃ s : ByteArray, e = .returned (.tuple #[.string s, .bool true]) ∧ InRad r.toNat (dval a.data.toList) s) ∨ ((goodB a.data.toList && radOk r) = false ∧ Mute e)

theorem AnsR.same {a : ByteArray} {r : Int} {e e' : Ending} (h : AnsR a r e) (h' : AnsR a r e') : ∃ (s : ByteArray) (o : Bool), e = .returned (.tuple #[.string s, .bool o]) ∧ e' = .returned (.tuple #[.string s, .bool o]) := by
  rcases h with ⟨g1, s, rfl, h⟩ | ⟨g1, h⟩ <;> rcases h' with ⟨g2, t, rfl, h'⟩ | ⟨g2, h'⟩
  · obtain rfl := h.inj h'
    exact ⟨s, true, rfl, rfl⟩
  · rw [g1] at g2; cases g2
  · rw [g1] at g2; cases g2
  · exact h.same h'

theorem rad_nat' {r : Int} (h : radOk r = true) : r = (r.toNat : Int) ∧ 2 ≤ r ∧ r ≤ 16 := by
  have := (radOk_iff r).1 h
  exact ⟨by omega, by omega, by omega⟩

set_option maxHeartbeats 1000000 in
set_option maxRecDepth 100000 in
theorem implToRadix_any (a : ByteArray) (r : Int) (w : World) (hsa : a.size ≤ maxLen) (hT : Tab w.heap.size w) :
    Calls Tryd.prog 14 #[.string a, .int .i64 r] w fun e w' => AnsR a r e ∧ Below w.heap.size w w' := by
  have hz := zero_nat.1
  have HT : Hid (Tab w.heap.size w) := hT
  clear hT
  go_enter Tryd.func14, Tryd.ntmps14
  go_wp2_with fail
  refine (readNat_any a _ hsa).mono ?_
  rintro e w1 ⟨k, p, oa, rfl, hRa, hW1⟩
  have hp := hRa.len
  have hs1 := hW1.size
  have A := NatAt.new w1 0 zP
  have hB : Below w.heap.size w (w1.alloc (.cells (natC 0 zP) 37)) := hW1.alloc (by omega) _
  have hok : oa = goodB a.data.toList := hRa.ok
  cases hg : oa with
  | true =>
    subst hg
    have hga : goodB a.data.toList = true := hok.symm
    have ra : Rep (dval a.data.toList) k p := hRa.rep hga
    have hk := ra.small (good_lt hga)
    have RA := hideT ra
    have HGA := hideT hga
    clear hga ra hok hRa
    go_wp2_with (refine store_nat rfl _ _ rfl rfl w1.heap.size k p rfl rfl 0 zP A zP_len hp ?_; intro w2 hN2 hg2 hs2)
    refine (goodRadix_any r _).mono ?_
    rintro e w3 ⟨rfl, rfl⟩
    have hB2 : Below w.heap.size w w3 := hB.grown hg2 (by simp; omega) (by intro k hk; cases hk; omega)
    have HT2 : Hid (Tab w3.heap.size w3) := (HT.out.on hB2).up hB2.size
    cases hr : radOk r with
    | true =>
      obtain ⟨hr1, hr2, hr3⟩ := rad_nat' hr
      have HR := hideT hr1
      have HOK : Hid ((goodB a.data.toList && radOk r) = true) := by unfold Hid; rw [HGA.out, hr]; rfl
      clear hr hr1
      go_wp2_with (refine load_nat rfl _ rfl w1.heap.size rfl k p hN2 hp ?_)
      refine (digits_any r.toNat r w3 RA.out hk HR.out hr2 hr3 HT2.out).mono ?_
      rintro e w4 ⟨s, rfl, hI, hW4⟩
      have HI : Hid (AnsR a r (.returned (.tuple #[.string s, .bool true]))) := .inl ⟨HOK.out, s, rfl, hI⟩
      clear hI
      go_wp2
      go_ret2
      exact ⟨HI.out, hB2.trans (hW4.mono hB2.size)⟩
    | false =>
      have HI : Hid (AnsR a r (.returned (.tuple #[.string ⟨#[]⟩, .bool false]))) := .inr ⟨by rw [hr, Bool.and_false], rfl⟩
      clear hr
      go_wp2
      go_ret2
      exact ⟨HI.out, hB2⟩
  | false =>
    subst hg
    have HI : Hid (AnsR a r (.returned (.tuple #[.string ⟨#[]⟩, .bool false]))) := .inr ⟨by rw [← hok, Bool.false_and], rfl⟩
    clear hok hRa
    go_wp2_with (refine store_nat rfl _ _ rfl rfl w1.heap.size k p rfl rfl 0 zP A zP_len hp ?_; intro w2 hN2 hg2 hs2)
    go_ret2
    exact ⟨HI.out, hB.grown hg2 (by simp; omega) (by intro k hk; cases hk; omega)⟩

set_option maxHeartbeats 400000 in
theorem specToRadix_any (a : ByteArray) (r : Int) (w : World) (hsa : a.size ≤ maxLen) :
    Calls Tryd.prog 15 #[.string a, .int .i64 r] w fun e w' => AnsR a r e ∧ Below w.heap.size w w' := by
  cases hg : goodB a.data.toList with
  | true =>
    have HG := hideT hg
    have hla : a.size ≤ 600 := by have := good_len hg; simpa using this
    have HA := hideT (good_canon hg)
    cases hr : radOk r with
    | true =>
      obtain ⟨hr1, hr2, hr3⟩ := rad_nat' hr
      have HR := hideT hr1
      have HK := hideT hr
      have HOK : Hid ((goodB a.data.toList && radOk r) = true) := by unfold Hid; rw [hg, hr]; rfl
      clear hr hr1 hg
      go_enter Tryd.func15, Tryd.ntmps15
      go_wp2_with fail
      refine (specGood_any a _ hsa).mono ?_
      rintro e w' ⟨rfl, rfl⟩
      rw [HG.out]
      go_wp2_with fail
      refine (l1Radix_any r _).mono ?_
      rintro e w' ⟨rfl, rfl⟩
      rw [HK.out]
      go_wp2_with fail
      refine (l1ToRadix_any a r.toNat r _ hla HA.out HR.out hr2 hr3).mono ?_
      rintro e w2 ⟨s, rfl, hI, hW2⟩
      have HI : Hid (AnsR a r (.returned (.tuple #[.string s, .bool true]))) := .inl ⟨HOK.out, s, rfl, hI⟩
      clear hI
      go_wp2
      go_ret2
      exact ⟨HI.out, hW2⟩
    | false =>
      have HK := hideT hr
      have HI : Hid (AnsR a r (.returned (.tuple #[.string ⟨#[]⟩, .bool false]))) := .inr ⟨by rw [hr, Bool.and_false], rfl⟩
      clear hr hg
      go_enter Tryd.func15, Tryd.ntmps15
      go_wp2_with fail
      refine (specGood_any a _ hsa).mono ?_
      rintro e w' ⟨rfl, rfl⟩
      rw [HG.out]
      go_wp2_with fail
      refine (l1Radix_any r _).mono ?_
      rintro e w' ⟨rfl, rfl⟩
      rw [HK.out]
      go_wp2
      go_ret2
      exact ⟨HI.out, Below.refl _ _⟩
  | false =>
    have HG := hideT hg
    have HI : Hid (AnsR a r (.returned (.tuple #[.string ⟨#[]⟩, .bool false]))) := .inr ⟨by rw [hg, Bool.false_and], rfl⟩
    clear hg
    go_enter Tryd.func15, Tryd.ntmps15
    go_wp2_with fail
    refine (specGood_any a _ hsa).mono ?_
    rintro e w' ⟨rfl, rfl⟩
    rw [HG.out]
    go_wp2
    go_ret2
    exact ⟨HI.out, Below.refl _ _⟩
end Go.Proofs.YtnlegofckpbncaaDoor

/-
  What spec.DivNat answers.
-/
namespace Go.Proofs.YtnlegofckpbncaaDoor
open Go.RowKit
set_option linter.unusedVariables false

end Go.Proofs.YtnlegofckpbncaaDoor
