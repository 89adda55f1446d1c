/-
  What impl.DivNat answers.
-/
import Derived.Test.YtnjfmjpbfidboaaDoorImplGcd
import Derived.Test.YtnjfmjpbfidboaaDoorImplAdd
import Derived.Test.YtnjfmjpbfidboaaDoorAns
import Derived.Test.YtnjfmjpbfidboaaDoorText
import Derived.Test.YtnjfmjpbfidboaaDoorReads
import Derived.OwnWalk
namespace Go.Proofs.YtnjfmjpbfidboaaDoor
open Go.RowKit
set_option linter.unusedVariables false

/-- It tells two numbers. -/
def Tells2 (n m : Nat) (e : Ending) : Prop := ∃ s t : ByteArray, e = .returned (.tuple #[.string s, .string t, .bool true]) ∧ canonB s.data.toList = true ∧ dval s.data.toList = n ∧ canonB t.data.toList = true ∧ dval t.data.toList = m
def Mute2 (e : Ending) : Prop := e = .returned (.tuple #[.string ⟨#[]⟩, .string ⟨#[]⟩, .bool false])
def Ans2 (g : Bool) (n m : Nat) (e : Ending) : Prop := (g = true ∧ Tells2 n m e) ∨ (g = false ∧ Mute2 e)
theorem Ans2.same {g : Bool} {n m : Nat} {e e' : Ending} (h : Ans2 g n m e) (h' : Ans2 g n m e') : ∃ (s t : ByteArray) (o : Bool), e = .returned (.tuple #[.string s, .string t, .bool o]) ∧ e' = .returned (.tuple #[.string s, .string t, .bool o]) := by
  rcases h with ⟨g1, h⟩ | ⟨g1, h⟩ <;> rcases h' with ⟨g2, h'⟩ | ⟨g2, h'⟩
  · obtain ⟨s, t, rfl, c1, v1, c2, v2⟩ := h
    obtain ⟨s', t', rfl, c1', v1', c2', v2'⟩ := h'
    obtain rfl : s = s' := Go.WideShapes.bytes_inj (canon_inj c1 c1' (by rw [v1, v1']))
    obtain rfl : t = t' := Go.WideShapes.bytes_inj (canon_inj c2 c2' (by rw [v2, v2']))
    exact ⟨s, t, true, rfl, rfl⟩
  · rw [g1] at g2; cases g2
  · rw [g1] at g2; cases g2
  · exact ⟨_, _, _, h, h'⟩

/-- May a be divided by b? -/
def divOk (a b : ByteArray) : Bool := (goodB a.data.toList && goodB b.data.toList) && decide (dval b.data.toList ≠ 0)

set_option maxHeartbeats 1000000 in
set_option maxRecDepth 100000 in
theorem implDiv_any (a b : ByteArray) (w : World) (hsa : a.size ≤ maxLen) (hsb : b.size ≤ maxLen) (hT : Tab w.heap.size w) :
    Calls Tryd.prog 18 #[.string a, .string b] w fun e w' => Ans2 (divOk a b) (dval a.data.toList / dval b.data.toList) (dval a.data.toList % dval b.data.toList) e ∧ Below w.heap.size w w' := by
  have hz := zero_nat.1
  have HT : Hid (Tab w.heap.size w) := hT
  clear hT
  go_enter Tryd.func18, Tryd.ntmps18
  go_wp2_with fail
  refine (readNats_any a b _ hsa hsb).mono ?_
  rintro e w1 ⟨k, m, p, q, oa, ob, rfl, hRa, hRb, hW1⟩
  have hp := hRa.len
  have hq := hRb.len
  have hs1 := hW1.size
  have A := (NatAt.new w1 0 zP).old (.cells (natC 0 zP) 33)
  have B := NatAt.new (w1.alloc (.cells (natC 0 zP) 33)) 0 zP
  have hB : Below w.heap.size w ((w1.alloc (.cells (natC 0 zP) 33)).alloc (.cells (natC 0 zP) 33)) := (hW1.alloc (by omega) _).alloc (by simp; omega) _
  simp only [World.size_alloc] at B
  have hok : oa = goodB a.data.toList := hRa.ok
  have hok' : ob = goodB b.data.toList := hRb.ok
  cases hg : (oa && ob) with
  | true =>
    have HG : Hid ((goodB a.data.toList && goodB b.data.toList) = true) := by unfold Hid; rw [← hok, ← hok']; exact hg
    have hga : goodB a.data.toList = true := by have := HG.out; simp only [Bool.and_eq_true] at this; exact this.1
    have hgb : goodB b.data.toList = true := by have := HG.out; simp only [Bool.and_eq_true] at this; exact this.2
    have ra : Rep (dval a.data.toList) k p := hRa.rep hga
    have rb : Rep (dval b.data.toList) m q := hRb.rep hgb
    have hk := ra.small (good_lt hga)
    have hm := rb.small (good_lt hgb)
    have RA := hideT (And.intro ra rb)
    clear hg hga hgb ra rb
    by_cases hm0 : m = 0
    · have HG2 : Hid (divOk a b = false) := by
        unfold Hid divOk
        rw [HG.out, RA.out.2.zero_iff.1 hm0]; rfl
      have hm0' : ((m : Int) == 0) = true := by simp [hm0]
      subst hm0
      go_wp2_with (first | (refine store_nat rfl _ _ rfl rfl w1.heap.size k p rfl rfl 0 zP A zP_len hp ?_; intro w2 hN2 hg2 hs2) | (refine store_nat rfl _ _ rfl rfl (w1.heap.size + 1) _ q rfl rfl 0 zP (B.grown hg2 (by simp)) zP_len hq ?_; intro w3 hN3 hg3 hs3; have c0 := hN3.c0))
      go_ret3
      exact ⟨.inr ⟨HG2.out, rfl⟩, (hB.grown hg2 (by simp; omega) (by intro k hk; cases hk; omega)).grown hg3 (by rw [hs2]; simp; omega) (by intro k hk; cases hk; omega)⟩
    · have hm0' : ((m : Int) == 0) = false := by simp [hm0]
      have HG2 : Hid (divOk a b = true) := by
        unfold Hid divOk
        rw [HG.out]
        have h1 : dval b.data.toList ≠ 0 := fun e => hm0 (RA.out.2.zero_iff.2 e)
        simp [h1]
      go_wp2_with (first | (refine store_nat rfl _ _ rfl rfl w1.heap.size k p rfl rfl 0 zP A zP_len hp ?_; intro w2 hN2 hg2 hs2) | (refine store_nat rfl _ _ rfl rfl (w1.heap.size + 1) m q rfl rfl 0 zP (B.grown hg2 (by simp)) zP_len hq ?_; intro w3 hN3 hg3 hs3; have c0 := hN3.c0) | (refine load_nat rfl _ rfl w1.heap.size rfl k p (hN2.grown hg3 (by simp)) hp ?_) | (refine load_nat rfl _ rfl (w1.heap.size + 1) rfl m q hN3 hq ?_))
      refine (divide_any w3 RA.out.1 RA.out.2 (by omega) (by omega)).mono ?_
      rintro e w4 ⟨i, j, r, s, rfl, hR, hS, hW4⟩
      have hB3 : Below w.heap.size w w3 := (hB.grown hg2 (by simp; omega) (by intro k hk; cases hk; omega)).grown hg3 (by rw [hs2]; simp; omega) (by intro k hk; cases hk; omega)
      have hs3' := hB3.size
      have hB4 : Below w.heap.size w w4 := hB3.trans (hW4.mono (by omega))
      have hs4 := hB4.size
      have hr := hR.len
      have hs := hS.len
      have HR := hideT (And.intro hR hS)
      clear A B hB hN2 hg2 hs2 hN3 hg3 hB3 hW4 hR hS c0
      have F1 := (NatAt.new w4 0 zP).old (.cells (natC 0 zP) 33)
      have F2 := NatAt.new (w4.alloc (.cells (natC 0 zP) 33)) 0 zP
      simp only [World.size_alloc] at F2
      go_wp2_with (first | (refine store_nat rfl _ _ rfl rfl w4.heap.size i r rfl rfl 0 zP F1 zP_len hr ?_; intro w5 hN5 hg5 hs5) | (refine store_nat rfl _ _ rfl rfl (w4.heap.size + 1) j s rfl rfl 0 zP (F2.grown hg5 (by simp)) zP_len hs ?_; intro w6 hN6 hg6 hs6) | (refine load_nat rfl _ rfl w4.heap.size rfl i r (hN5.grown hg6 (by simp)) hr ?_))
      have hs6' : w6.heap.size = w4.heap.size + 1 + 1 := by rw [hs6, hs5]; simp
      have hN56 := hN5.grown hg6 (by first | (simp; done) | (simp; omega))
      have hW6 : Below w.heap.size w w6 := (((hB4.alloc (by omega) _).alloc (by first | (simp; done) | (simp; omega)) _).grown hg5 (by first | (simp; done) | (simp; omega)) (by intro k hk; cases hk; omega)).grown hg6 (by rw [hs5]; simp; omega) (by intro k hk; cases hk; omega)
      have HT6 : Hid (Tab w6.drew.heap.size w6.drew) := (HT.out.on hW6.drew).up (hW6.drew).size
      clear F1 F2 hB4 hs4 hN5 hg5 hs5 hg6 hs6
      refine held_begin (fun w' => NatAt w' w4.heap.size i r ∧ NatAt w' (w4.heap.size + 1) j s) (by kernel_rfl) ?_
      have hS : NatAt w6.drew w4.heap.size i r ∧ NatAt w6.drew (w4.heap.size + 1) j s := ⟨hN56, hN6⟩
      refine held_load 0 (some 32) rfl rfl (by kernel_rfl) (by kernel_rfl) (by kernel_rfl) noPanic_put rfl _ rfl w4.heap.size rfl i r (fun _ h => h.1) hr hS ?_
      simp only [Act.put, List.setIfInBounds_toArray, List.set_cons_zero, List.set_cons_succ]
      refine held_load 2 (some 34) rfl rfl (by kernel_rfl) (by kernel_rfl) (by kernel_rfl) noPanic_put rfl _ rfl (w4.heap.size + 1) rfl j s (fun _ h => h.2) hs hS ?_
      simp only [Act.put, List.setIfInBounds_toArray, List.set_cons_zero, List.set_cons_succ]
      refine held_call 1 (some 33) (by kernel_rfl) rfl rfl rfl 40 #[.agg (natC i r)] (by go_simp) _ (text_any w6.drew HR.out.1 HT6.out) ?_
      rintro e w7 ⟨s1, rfl, c1, v1, hW7⟩
      have hW7 : Below w6.heap.size w6 w7 := ⟨hW7.os, hW7.tape, hW7.output, hW7.size, hW7.block⟩
      have hS7 : NatAt w7 w4.heap.size i r ∧ NatAt w7 (w4.heap.size + 1) j s := ⟨hN56.below hW7 (by omega), hN6.below hW7 (by omega)⟩
      have hW7' : Below w.heap.size w w7 := hW6.trans (hW7.mono hW6.size)
      have HT7 : Hid (Tab w7.heap.size w7) := (HT.out.on hW7').up hW7'.size
      refine ⟨_, rfl, hS7, ?_⟩
      simp only [Act.put, List.setIfInBounds_toArray, List.set_cons_zero, List.set_cons_succ]
      refine held_call 3 (some 35) (by kernel_rfl) rfl rfl rfl 40 #[.agg (natC j s)] (by go_simp) _ (text_any w7 HR.out.2 HT7.out) ?_
      rintro e w8 ⟨s2, rfl, c2, v2, hW8⟩
      have hS8 : NatAt w8 w4.heap.size i r ∧ NatAt w8 (w4.heap.size + 1) j s := ⟨hS7.1.below hW8 (by have := hW7.size; omega), hS7.2.below hW8 (by have := hW7.size; omega)⟩
      refine ⟨_, rfl, hS8, ?_⟩
      simp only [Act.put, List.setIfInBounds_toArray, List.set_cons_zero, List.set_cons_succ]
      refine held_assign 4 (some 4) (by kernel_rfl) rfl rfl _ rfl rfl (.string s1) rfl hS8 ?_
      simp only [Act.put, List.setIfInBounds_toArray, List.set_cons_zero, List.set_cons_succ]
      refine held_assign 5 (some 5) (by kernel_rfl) rfl rfl _ rfl rfl (.string s2) rfl hS8 ?_
      simp only [Act.put, List.setIfInBounds_toArray, List.set_cons_zero, List.set_cons_succ]
      refine held_assign 6 (some 6) (by kernel_rfl) rfl rfl _ rfl rfl (.bool true) rfl hS8 ?_
      simp only [Act.put, List.setIfInBounds_toArray, List.set_cons_zero, List.set_cons_succ]
      refine wpAnyH_done (by kernel_rfl) ?_ _
      refine NoPanic.normal ?_
      go_wp2
      go_ret3
      exact ⟨.inl ⟨HG2.out, s1, s2, rfl, c1, v1, c2, v2⟩, hW7'.trans (hW8.mono hW7'.size)⟩
  | false =>
    have HG : Hid (divOk a b = false) := by unfold Hid divOk; rw [← hok, ← hok', hg]; rfl
    clear hg
    go_wp2_with (first | (refine store_nat rfl _ _ rfl rfl w1.heap.size k p rfl rfl 0 zP A zP_len hp ?_; intro w2 hN2 hg2 hs2) | (refine store_nat rfl _ _ rfl rfl (w1.heap.size + 1) m q rfl rfl 0 zP (B.grown hg2 (by simp)) zP_len hq ?_; intro w3 hN3 hg3 hs3))
    go_ret3
    exact ⟨.inr ⟨HG.out, rfl⟩, (hB.grown hg2 (by simp; omega) (by intro k hk; cases hk; omega)).grown hg3 (by rw [hs2]; simp; omega) (by intro k hk; cases hk; omega)⟩
end Go.Proofs.YtnjfmjpbfidboaaDoor
