/-
  What impl.SubNat answers.
-/
import Derived.Test.YtnjfmjpbfidboaaDoorSpecSub
import Derived.Test.YtnjfmjpbfidboaaDoorImplAdd
import Derived.Test.YtnjfmjpbfidboaaDoorText
import Derived.Test.YtnjfmjpbfidboaaDoorReads
namespace Go.Proofs.YtnjfmjpbfidboaaDoor
open Go.RowKit
set_option linter.unusedVariables false

set_option maxHeartbeats 1000000 in
set_option maxRecDepth 100000 in
theorem implSub_any (a b : ByteArray) (w : World) (hsa : a.size ≤ maxLen) (hsb : b.size ≤ maxLen) (hT : Tab w.heap.size w) :
    Calls Tryd.prog 14 #[.string a, .string b] w fun e w' => Ans (subOk a b) (dval a.data.toList - dval b.data.toList) e ∧ Below w.heap.size w w' := by
  have hz := zero_nat.1
  have HT : Hid (Tab w.heap.size w) := hT
  clear hT
  go_enter Tryd.func14, Tryd.ntmps14
  go_wp2_with fail
  refine (readNats_any a b _ hsa hsb).mono ?_
  rintro e w1 ⟨k, m, p, q, oa, ob, rfl, hRa, hRb, hW1⟩
  have hp := hRa.len
  have hq := hRb.len
  have hs1 := hW1.size
  have A := (NatAt.new w1 0 zP).old (.cells (natC 0 zP) 33)
  have B := NatAt.new (w1.alloc (.cells (natC 0 zP) 33)) 0 zP
  have hB : Below w.heap.size w ((w1.alloc (.cells (natC 0 zP) 33)).alloc (.cells (natC 0 zP) 33)) := (hW1.alloc (by omega) _).alloc (by simp; omega) _
  simp only [World.size_alloc] at B
  have hok : oa = goodB a.data.toList := hRa.ok
  have hok' : ob = goodB b.data.toList := hRb.ok
  cases hg : (oa && ob) with
  | true =>
    have HG : Hid ((goodB a.data.toList && goodB b.data.toList) = true) := by unfold Hid; rw [← hok, ← hok']; exact hg
    have hga : goodB a.data.toList = true := by have := HG.out; simp only [Bool.and_eq_true] at this; exact this.1
    have hgb : goodB b.data.toList = true := by have := HG.out; simp only [Bool.and_eq_true] at this; exact this.2
    have ra : Rep (dval a.data.toList) k p := hRa.rep hga
    have rb : Rep (dval b.data.toList) m q := hRb.rep hgb
    have hk := ra.small (good_lt hga)
    have hm := rb.small (good_lt hgb)
    have RA := hideT (And.intro ra rb)
    clear hg hga hgb ra rb
    go_wp2_with (first | (refine store_nat rfl _ _ rfl rfl w1.heap.size k p rfl rfl 0 zP A zP_len hp ?_; intro w2 hN2 hg2 hs2) | (refine store_nat rfl _ _ rfl rfl (w1.heap.size + 1) m q rfl rfl 0 zP (B.grown hg2 (by simp)) zP_len hq ?_; intro w3 hN3 hg3 hs3) | (refine load_nat rfl _ rfl w1.heap.size rfl k p (hN2.grown hg3 (by simp)) hp ?_) | (refine load_nat rfl _ rfl (w1.heap.size + 1) rfl m q hN3 hq ?_))
    refine (minus_any 1 0 w3 RA.out.1 RA.out.2 (by omega) (by omega) (by omega) (by omega)).mono ?_
    have hB3 : Below w.heap.size w w3 := (hB.grown hg2 (by simp; omega) (by intro k hk; cases hk; omega)).grown hg3 (by rw [hs2]; simp; omega) (by intro k hk; cases hk; omega)
    have hs3' := hB3.size
    clear A B hB hN2 hg2 hs2 hN3 hg3 hs3
    rintro e w4 (⟨i, r, x, rfl, hR, hx, hW4⟩ | ⟨rfl, hx, hW4⟩)
    · have hB4 : Below w.heap.size w w4 := hB3.trans (hW4.mono (by omega))
      have hs4 := hB4.size
      have hrl := hR.len
      simp only [Int.pow_zero, Int.one_mul] at hx
      have hab : dval b.data.toList ≤ dval a.data.toList := by omega
      have hxx : x = dval a.data.toList - dval b.data.toList := by omega
      have HK : Hid (subOk a b = true) := by unfold Hid subOk; rw [HG.out, decide_eq_true hab]; rfl
      have HX := hideT hxx
      have HR := hideT hR
      have C := NatAt.new w4 0 zP
      clear hB3 hW4 hR hx hxx hab
      go_wp2_with (first | (refine store_nat rfl _ _ rfl rfl w4.heap.size i r rfl rfl 0 zP C zP_len hrl ?_; intro w5 hN5 hg5 hs5) | (refine load_nat rfl _ rfl w4.heap.size rfl i r hN5 hrl ?_))
      have hB5 : Below w.heap.size w w5 := (hB4.alloc hs4 _).grown hg5 (by simp; omega) (by intro k hk; cases hk; omega)
      have hs5' := hB5.size
      have HT5 : Hid (Tab w5.heap.size w5) := (HT.out.on hB5).up hs5'
      refine (tellNat_any w5 HR.out HT5.out).mono ?_
      rintro e w6 ⟨s, rfl, h1, h2, hW6⟩
      have HS := hideT (And.intro h1 h2)
      obtain ⟨bb, hbb⟩ : ∃ bb, bb = decide (x < 10 ^ 600) := ⟨_, rfl⟩
      rw [← hbb]
      have HBB := hideT hbb
      clear hbb h1 h2
      go_wp2
      go_ret2
      have hxx := HX.out
      refine ⟨.inl ⟨HK.out, s, ?_, ?_, ?_⟩, hB5.trans (hW6.mono hs5')⟩
      · rw [← hxx, ← HBB.out]; rfl
      · rw [← hxx]; exact HS.out.1
      · rw [← hxx]; exact HS.out.2
    · have hB4 : Below w.heap.size w w4 := hB3.trans (hW4.mono (by omega))
      have hs4 := hB4.size
      simp only [Int.pow_zero, Int.one_mul] at hx
      have HK : Hid (subOk a b = false) := by unfold Hid subOk; rw [HG.out, decide_eq_false (by omega)]; rfl
      have C := NatAt.new w4 0 zP
      clear hB3 hW4 hx
      go_wp2_with (refine store_nat rfl _ _ rfl rfl w4.heap.size 0 zP rfl rfl 0 zP C zP_len zP_len ?_; intro w5 hN5 hg5 hs5)
      have hB5 : Below w.heap.size w w5 := (hB4.alloc hs4 _).grown hg5 (by simp; omega) (by intro k hk; cases hk; omega)
      go_ret2
      exact ⟨.inr ⟨HK.out, rfl⟩, hB5⟩
  | false =>
    have HG : Hid ((goodB a.data.toList && goodB b.data.toList) = false) := by unfold Hid; rw [← hok, ← hok']; exact hg
    clear hg
    go_wp2_with (first | (refine store_nat rfl _ _ rfl rfl w1.heap.size k p rfl rfl 0 zP A zP_len hp ?_; intro w2 hN2 hg2 hs2) | (refine store_nat rfl _ _ rfl rfl (w1.heap.size + 1) m q rfl rfl 0 zP (B.grown hg2 (by simp)) zP_len hq ?_; intro w3 hN3 hg3 hs3))
    go_ret2
    exact ⟨.inr ⟨by unfold subOk; rw [HG.out]; rfl, rfl⟩, (hB.grown hg2 (by simp; omega) (by intro k hk; cases hk; omega)).grown hg3 (by rw [hs2]; simp; omega) (by intro k hk; cases hk; omega)⟩
end Go.Proofs.YtnjfmjpbfidboaaDoor
