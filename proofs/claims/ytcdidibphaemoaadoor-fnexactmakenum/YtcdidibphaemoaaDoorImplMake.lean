/-
  What impl.MakeNum answers.
-/
import Derived.Test.YtcdidibphaemoaaDoorTellNum
import Derived.Test.YtcdidibphaemoaaDoorReads
import Derived.Test.YtcdidibphaemoaaDoorImplAdd
import Derived.Test.YtcdidibphaemoaaDoorAns
namespace Go.Proofs.YtcdidibphaemoaaDoor
open Go.RowKit
set_option linter.unusedVariables false

/-- What MakeNum should answer. -/
def makeOk (a b : ByteArray) : Bool := (goodB a.data.toList && goodB b.data.toList) && decide (dval b.data.toList ≠ 0)
def MakeAns (g : Bool) (a b : ByteArray) (e : Ending) : Prop :=
  (makeOk a b = true ∧ TellsN (g && decide (dval a.data.toList ≠ 0)) (dval a.data.toList / Nat.gcd (dval a.data.toList) (dval b.data.toList)) (dval b.data.toList / Nat.gcd (dval a.data.toList) (dval b.data.toList)) e) ∨ (makeOk a b = false ∧ Mute e)
theorem MakeAns.same {g : Bool} {a b : ByteArray} {e e' : Ending} (h : MakeAns g a b e) (h' : MakeAns g a b e') : ∃ (s : ByteArray) (o : Bool), e = .returned (.tuple #[.string s, .bool o]) ∧ e' = .returned (.tuple #[.string s, .bool o]) := by
  rcases h with ⟨g1, h⟩ | ⟨g1, h⟩ <;> rcases h' with ⟨g2, h'⟩ | ⟨g2, h'⟩
  · exact h.same h'
  · rw [g1] at g2; cases g2
  · rw [g1] at g2; cases g2
  · exact h.same h'

set_option maxHeartbeats 1000000 in
set_option maxRecDepth 100000 in
theorem implMake_any (g : Bool) (a b : ByteArray) (w : World) (hsa : a.size ≤ maxLen) (hsb : b.size ≤ maxLen) (hT : Tab w.heap.size w) :
    Calls Tryd.prog 16 #[.bool g, .string a, .string b] w fun e w' => MakeAns g a b e ∧ Below w.heap.size w w' := by
  have hz := zero_nat.1
  have HT : Hid (Tab w.heap.size w) := hT
  clear hT
  go_enter Tryd.func16, Tryd.ntmps16
  go_wp2_with fail
  refine (readNats_any a b _ hsa hsb).mono ?_
  rintro e w1 ⟨k, m, p, q, oa, ob, rfl, hRa, hRb, hW1⟩
  have hp := hRa.len
  have hq := hRb.len
  have hs1 := hW1.size
  have A := (NatAt.new w1 0 zP).old (.cells (natC 0 zP) 36)
  have B := NatAt.new (w1.alloc (.cells (natC 0 zP) 36)) 0 zP
  have hB : Below w.heap.size w ((w1.alloc (.cells (natC 0 zP) 36)).alloc (.cells (natC 0 zP) 36)) := (hW1.alloc (by omega) _).alloc (by simp; omega) _
  simp only [World.size_alloc] at B
  have hok : oa = goodB a.data.toList := hRa.ok
  have hok' : ob = goodB b.data.toList := hRb.ok
  cases hg : (oa && ob) with
  | true =>
    have HG : Hid ((goodB a.data.toList && goodB b.data.toList) = true) := by unfold Hid; rw [← hok, ← hok']; exact hg
    have hga : goodB a.data.toList = true := by have := HG.out; simp only [Bool.and_eq_true] at this; exact this.1
    have hgb : goodB b.data.toList = true := by have := HG.out; simp only [Bool.and_eq_true] at this; exact this.2
    have ra : Rep (dval a.data.toList) k p := hRa.rep hga
    have rb : Rep (dval b.data.toList) m q := hRb.rep hgb
    have hk := ra.small (good_lt hga)
    have hm := rb.small (good_lt hgb)
    have RA := hide (And.intro ra rb)
    clear hg hga hgb ra rb
    by_cases hm0 : m = 0
    · have HG2 : Hid (MakeAns g a b (.returned (.tuple #[.string ⟨#[]⟩, .bool false]))) := by
        refine .inr ⟨?_, rfl⟩
        unfold makeOk
        rw [HG.out, RA.out.2.zero_iff.1 hm0]; rfl
      have hm0' : ((m : Int) == 0) = true := by simp [hm0]
      subst hm0
      go_wp2_with (first | (refine store_nat rfl _ _ rfl rfl w1.heap.size k p rfl rfl 0 zP A zP_len hp ?_; intro w2 hN2 hg2 hs2) | (refine store_nat rfl _ _ rfl rfl (w1.heap.size + 1) _ q rfl rfl 0 zP (B.grown hg2 (by simp)) zP_len hq ?_; intro w3 hN3 hg3 hs3; have c0 := hN3.c0))
      go_ret2
      exact ⟨HG2.out, (hB.grown hg2 (by simp; omega) (by intro k hk; cases hk; omega)).grown hg3 (by rw [hs2]; simp; omega) (by intro k hk; cases hk; omega)⟩
    · have hm0' : ((m : Int) == 0) = false := by simp [hm0]
      have HG2 : Hid (makeOk a b = true) := by
        unfold Hid makeOk
        rw [HG.out]
        have h1 : dval b.data.toList ≠ 0 := fun e => hm0 (RA.out.2.zero_iff.2 e)
        simp [h1]
      have HS : Hid (decide (0 < k) = decide (dval a.data.toList ≠ 0)) := by
        unfold Hid
        have h := RA.out.1.zero_iff
        by_cases e : k = 0
        · rw [decide_eq_false (by omega), decide_eq_false (by have := h.1 e; omega)]
        · rw [decide_eq_true (by omega), decide_eq_true (show dval a.data.toList ≠ 0 from fun e' => e (h.2 e'))]
      go_wp2_with (first | (refine store_nat rfl _ _ rfl rfl w1.heap.size k p rfl rfl 0 zP A zP_len hp ?_; intro w2 hN2 hg2 hs2) | (refine store_nat rfl _ _ rfl rfl (w1.heap.size + 1) m q rfl rfl 0 zP (B.grown hg2 (by simp)) zP_len hq ?_; intro w3 hN3 hg3 hs3; have c0 := hN3.c0) | (refine load_nat rfl _ rfl w1.heap.size rfl k p (hN2.grown hg3 (by simp)) hp ?_) | (refine load_nat rfl _ rfl (w1.heap.size + 1) rfl m q hN3 hq ?_))
      have hs3' : w3.heap.size = w1.heap.size + 1 + 1 := by rw [hs3, hs2]; simp
      have hN23 := hN2.grown hg3 (by simp)
      have hB3 : Below w.heap.size w w3 := (hB.grown hg2 (by simp; omega) (by intro k hk; cases hk; omega)).grown hg3 (by rw [hs2]; simp; omega) (by intro k hk; cases hk; omega)
      clear A B hB hN2 hg2 hs2 hg3 hs3 c0
      refine held_begin (fun w' => NatAt w' w1.heap.size k p ∧ NatAt w' (w1.heap.size + 1) m q) (by kernel_rfl) ?_
      have hS : NatAt w3.drew w1.heap.size k p ∧ NatAt w3.drew (w1.heap.size + 1) m q := ⟨hN23, hN3⟩
      refine held_val 0 (some 25) rfl rfl (by kernel_rfl) (by kernel_rfl) (by kernel_rfl) noPanic_put rfl (.bool g) (fun _ => rfl) hS ?_
      simp only [Act.put, List.setIfInBounds_toArray, List.set_cons_zero, List.set_cons_succ]
      refine held_load 1 (some 26) rfl rfl (by kernel_rfl) (by kernel_rfl) (by kernel_rfl) noPanic_put rfl _ rfl w1.heap.size rfl k p (fun _ h => h.1) hp hS ?_
      simp only [Act.put, List.setIfInBounds_toArray, List.set_cons_zero, List.set_cons_succ]
      refine held_load 3 (some 28) rfl rfl (by kernel_rfl) (by kernel_rfl) (by kernel_rfl) noPanic_put rfl _ rfl (w1.heap.size + 1) rfl m q (fun _ h => h.2) hq hS ?_
      simp only [Act.put, List.setIfInBounds_toArray, List.set_cons_zero, List.set_cons_succ]
      refine held_call 2 (some 27) (by kernel_rfl) rfl rfl rfl 41 #[.bool g, .agg (natC k p)] (by go_simp) _ (wholeOf_any g k p w3.drew hp) ?_
      rintro e w4 ⟨rfl, hW4⟩
      have hW4 : Below w3.heap.size w3 w4 := ⟨hW4.os, hW4.tape, hW4.output, hW4.size, hW4.block⟩
      have hS4 : NatAt w4 w1.heap.size k p ∧ NatAt w4 (w1.heap.size + 1) m q := ⟨hN23.below hW4 (by omega), hN3.below hW4 (by omega)⟩
      have hB4 : Below w.heap.size w w4 := hB3.trans (hW4.mono hB3.size)
      refine ⟨_, rfl, hS4, ?_⟩
      simp only [Act.put, List.setIfInBounds_toArray, List.set_cons_zero, List.set_cons_succ]
      refine held_call 4 (some 29) (by kernel_rfl) rfl rfl rfl 40 #[.agg (wholeC (g && decide (0 < k)) k p), .agg (natC m q)] (by go_simp) _ (fraction_any (g && decide (0 < k)) w4 RA.out.1 RA.out.2 (by omega) (by omega) (by omega)) ?_
      rintro e w5 ⟨i, l, r, s, rfl, hR1, hR2, hW5⟩
      have hS5 : NatAt w5 w1.heap.size k p ∧ NatAt w5 (w1.heap.size + 1) m q := ⟨hS4.1.below hW5 (by have := hW4.size; omega), hS4.2.below hW5 (by have := hW4.size; omega)⟩
      have hB5 : Below w.heap.size w w5 := hB4.trans (hW5.mono hB4.size)
      have HT5 : Hid (Tab w5.heap.size w5) := (HT.out.on hB5).up hB5.size
      refine ⟨_, rfl, hS5, ?_⟩
      simp only [Act.put, List.setIfInBounds_toArray, List.set_cons_zero, List.set_cons_succ]
      refine held_call 5 (some 30) (by kernel_rfl) rfl rfl rfl 39 #[.agg (numC (g && decide (0 < k)) i r l s)] (by go_simp) _ (tellNum_any (g && decide (0 < k)) w5 hR1 hR2 HT5.out) ?_
      rintro e w6 ⟨hTN, hW6⟩
      have hTN' := hTN
      rw [HS.out] at hTN'
      obtain ⟨t, rfl, _, _⟩ := hTN
      obtain ⟨bb, hbb⟩ : ∃ bb, bb = (decide (dval a.data.toList / Nat.gcd (dval a.data.toList) (dval b.data.toList) < 10 ^ 600) && decide (dval b.data.toList / Nat.gcd (dval a.data.toList) (dval b.data.toList) < 10 ^ 600)) := ⟨_, rfl⟩
      rw [← hbb] at hTN' ⊢
      have HA : Hid (MakeAns g a b (.returned (.tuple #[.string t, .bool bb]))) := .inl ⟨HG2.out, hTN'⟩
      clear hTN' hbb
      have hS6 : NatAt w6 w1.heap.size k p ∧ NatAt w6 (w1.heap.size + 1) m q := ⟨hS5.1.below hW6 (by have := hW4.size; have := hW5.size; omega), hS5.2.below hW6 (by have := hW4.size; have := hW5.size; omega)⟩
      have hB6 : Below w.heap.size w w6 := hB5.trans (hW6.mono hB5.size)
      refine ⟨_, rfl, hS6, ?_⟩
      simp only [Act.put, List.setIfInBounds_toArray, List.set_cons_zero, List.set_cons_succ]
      refine held_val 6 (some 31) rfl rfl (by kernel_rfl) (by kernel_rfl) (by kernel_rfl) noPanic_put rfl (.string t) (fun _ => rfl) hS6 ?_
      simp only [Act.put, List.setIfInBounds_toArray, List.set_cons_zero, List.set_cons_succ]
      refine held_val 7 (some 32) rfl rfl (by kernel_rfl) (by kernel_rfl) (by kernel_rfl) noPanic_put rfl (.bool bb) (fun _ => rfl) hS6 ?_
      simp only [Act.put, List.setIfInBounds_toArray, List.set_cons_zero, List.set_cons_succ]
      refine held_assign 8 (some 6) (by kernel_rfl) rfl rfl _ rfl rfl (.string t) rfl hS6 ?_
      simp only [Act.put, List.setIfInBounds_toArray, List.set_cons_zero, List.set_cons_succ]
      refine held_assign 9 (some 7) (by kernel_rfl) rfl rfl _ rfl rfl (.bool bb) rfl hS6 ?_
      simp only [Act.put, List.setIfInBounds_toArray, List.set_cons_zero, List.set_cons_succ]
      refine wpAnyH_done (by kernel_rfl) ?_ _
      refine NoPanic.normal ?_
      go_wp2
      go_ret2
      exact ⟨HA.out, hB6⟩
  | false =>
    have HG : Hid (MakeAns g a b (.returned (.tuple #[.string ⟨#[]⟩, .bool false]))) := .inr ⟨by unfold makeOk; rw [← hok, ← hok', hg]; rfl, rfl⟩
    clear hg
    go_wp2_with (first | (refine store_nat rfl _ _ rfl rfl w1.heap.size k p rfl rfl 0 zP A zP_len hp ?_; intro w2 hN2 hg2 hs2) | (refine store_nat rfl _ _ rfl rfl (w1.heap.size + 1) m q rfl rfl 0 zP (B.grown hg2 (by simp)) zP_len hq ?_; intro w3 hN3 hg3 hs3))
    go_ret2
    exact ⟨HG.out, (hB.grown hg2 (by simp; omega) (by intro k hk; cases hk; omega)).grown hg3 (by rw [hs2]; simp; omega) (by intro k hk; cases hk; omega)⟩
end Go.Proofs.YtcdidibphaemoaaDoor
