/-
  The texts ImplMul, ImplPow, one behind the other.
-/
import Derived.Test.YtmfpnbmfcoahbaaDoorPkSpecMul
import Derived.Test.YtmfpnbmfcoahbaaDoorImplAdd
import Derived.Test.YtmfpnbmfcoahbaaDoorText
import Derived.Test.YtmfpnbmfcoahbaaDoorPkHeld
import Derived.Test.YtmfpnbmfcoahbaaDoorPkMinus

/-
  What impl.MulNat answers.
-/
namespace Go.Proofs.YtmfpnbmfcoahbaaDoor
open Go.RowKit
set_option linter.unusedVariables false

set_option maxHeartbeats 1000000 in
set_option maxRecDepth 100000 in
theorem implMul_any (a b : ByteArray) (w : World) (hsa : a.size ≤ maxLen) (hsb : b.size ≤ maxLen) (hT : Tab w.heap.size w) :
    Calls Tryd.prog 9 #[.string a, .string b] w fun e w' => Ans (goodB a.data.toList && goodB b.data.toList) (dval a.data.toList * dval b.data.toList) e ∧ Below w.heap.size w w' := by
  have hz := zero_nat.1
  have HT : Hid (Tab w.heap.size w) := hT
  clear hT
  go_enter Tryd.func9, Tryd.ntmps9
  go_wp2_with fail
  refine (readNats_any a b _ hsa hsb).mono ?_
  rintro e w1 ⟨k, m, p, q, oa, ob, rfl, hRa, hRb, hW1⟩
  have hp := hRa.len
  have hq := hRb.len
  have hs1 := hW1.size
  have A := (NatAt.new w1 0 zP).old (.cells (natC 0 zP) 46)
  have B := NatAt.new (w1.alloc (.cells (natC 0 zP) 46)) 0 zP
  have hB : Below w.heap.size w ((w1.alloc (.cells (natC 0 zP) 46)).alloc (.cells (natC 0 zP) 46)) := (hW1.alloc (by omega) _).alloc (by simp; omega) _
  simp only [World.size_alloc] at B
  have hok : oa = goodB a.data.toList := hRa.ok
  have hok' : ob = goodB b.data.toList := hRb.ok
  cases hg : (oa && ob) with
  | true =>
    have HG : Hid ((goodB a.data.toList && goodB b.data.toList) = true) := by unfold Hid; rw [← hok, ← hok']; exact hg
    have hga : goodB a.data.toList = true := by have := HG.out; simp only [Bool.and_eq_true] at this; exact this.1
    have hgb : goodB b.data.toList = true := by have := HG.out; simp only [Bool.and_eq_true] at this; exact this.2
    have ra : Rep (dval a.data.toList) k p := hRa.rep hga
    have rb : Rep (dval b.data.toList) m q := hRb.rep hgb
    have hk := ra.small (good_lt hga)
    have hm := rb.small (good_lt hgb)
    have RA := hideT (And.intro ra rb)
    clear hg hga hgb ra rb
    go_wp2_with (first | (refine store_nat rfl _ _ rfl rfl w1.heap.size k p rfl rfl 0 zP A zP_len hp ?_; intro w2 hN2 hg2 hs2) | (refine store_nat rfl _ _ rfl rfl (w1.heap.size + 1) m q rfl rfl 0 zP (B.grown hg2 (by simp)) zP_len hq ?_; intro w3 hN3 hg3 hs3) | (refine load_nat rfl _ rfl w1.heap.size rfl k p (hN2.grown hg3 (by simp)) hp ?_) | (refine load_nat rfl _ rfl (w1.heap.size + 1) rfl m q hN3 hq ?_))
    refine (times_any w3 RA.out.1 RA.out.2 hk hm).mono ?_
    rintro e w4 ⟨i, r, rfl, hR, hW4⟩
    have hB3 : Below w.heap.size w w3 := (hB.grown hg2 (by simp; omega) (by intro k hk; cases hk; omega)).grown hg3 (by rw [hs2]; simp; omega) (by intro k hk; cases hk; omega)
    have hs3 := hB3.size
    have hB4 : Below w.heap.size w w4 := hB3.trans (hW4.mono (by omega))
    have hs4 := hB4.size
    have HR := hideT hR
    have HT4 : Hid (Tab w4.heap.size w4) := (HT.out.on hB4).up hs4
    clear A B hB hN2 hg2 hs2 hN3 hg3 hB3 hW4 hR
    go_wp2_with fail
    refine (tellNat_any w4 HR.out HT4.out).mono ?_
    rintro e w5 ⟨s, rfl, h1, h2, hW5⟩
    have HS := hideT (And.intro h1 h2)
    obtain ⟨bb, hbb⟩ : ∃ bb, bb = decide (dval a.data.toList * dval b.data.toList < 10 ^ 600) := ⟨_, rfl⟩
    rw [← hbb]
    have HBB := hideT hbb
    clear hbb h1 h2
    go_wp2
    go_ret2
    exact ⟨.inl ⟨HG.out, s, by rw [← HBB.out]; rfl, HS.out.1, HS.out.2⟩, hB4.trans (hW5.mono hs4)⟩
  | false =>
    have HG : Hid ((goodB a.data.toList && goodB b.data.toList) = false) := by unfold Hid; rw [← hok, ← hok']; exact hg
    clear hg
    go_wp2_with (first | (refine store_nat rfl _ _ rfl rfl w1.heap.size k p rfl rfl 0 zP A zP_len hp ?_; intro w2 hN2 hg2 hs2) | (refine store_nat rfl _ _ rfl rfl (w1.heap.size + 1) m q rfl rfl 0 zP (B.grown hg2 (by simp)) zP_len hq ?_; intro w3 hN3 hg3 hs3))
    go_ret2
    exact ⟨.inr ⟨HG.out, rfl⟩, (hB.grown hg2 (by simp; omega) (by intro k hk; cases hk; omega)).grown hg3 (by rw [hs2]; simp; omega) (by intro k hk; cases hk; omega)⟩
end Go.Proofs.YtmfpnbmfcoahbaaDoor

/-
  What impl.PowNat answers.
-/
namespace Go.Proofs.YtmfpnbmfcoahbaaDoor
open Go.RowKit
set_option linter.unusedVariables false

end Go.Proofs.YtmfpnbmfcoahbaaDoor
