/-
  What impl.CompareNat answers.
-/
import Derived.Test.YtnjfmjpbfidboaaCompare
import Derived.Test.YtnjfmjpbfidboaaReads
import Derived.Test.YtnjfmjpbfidboaaSpecCmp
namespace Go.Proofs.Ytnjfmjpbfidboaa
open Go.RowKit
set_option linter.unusedVariables false

theorem cmpAt_rep {n m k : Nat} {p q : List Int} (h : Rep n k p) (g : Rep m k q) (j : Nat) (hj : j ≤ k) (ab : ∀ i, j ≤ i → p.getD i 0 = q.getD i 0) : cmpAt p q j = cmpI n m := by
  induction j with
  | zero => 
    have : n = m := h.ext g (fun i _ => ab i (Nat.zero_le _))
    rw [cmpI_eq (by omega)]; rfl
  | succ j ih =>
    have hk := h.le
    have hlp := h.len
    unfold cmpAt
    split
    · rename_i e
      exact ih (by omega) (fun i hi => by
        by_cases e' : i = j
        · rw [e']; exact e
        · exact ab i (by omega))
    · rename_i e
      have hv := h.val
      have gv := g.val
      rcases Int.lt_or_gt_of_ne e with hl | hl
      · have := vb_less 1000000 (by omega) p q j (by rw [h.len, g.len]) (by omega) h.lo h.hi g.lo g.hi (fun i hi => ab i (by omega)) hl
        rw [cmpI_lt hl, cmpI_lt (by omega)]
      · have := vb_less 1000000 (by omega) q p j (by rw [h.len, g.len]) (by rw [g.len]; omega) g.lo g.hi h.lo h.hi (fun i hi => (ab i (by omega)).symm) hl
        rw [cmpI_gt hl, cmpI_gt (by omega)]

theorem compare_rep {n m k j : Nat} {p q : List Int} (w : World) (h : Rep n k p) (g : Rep m j q) :
    Calls Try.prog 13 #[.agg (natC k p), .agg (natC j q)] w fun e w' => e = .returned (.int .i64 (cmpI n m)) ∧ Below w.heap.size w w' := by
  by_cases hk : k = j
  · subst hk
    refine (compare_eq k p q w h.len g.len h.le).mono ?_
    rintro e w' ⟨rfl, hW⟩
    exact ⟨ret_int (cmpAt_rep h g k (Nat.le_refl _) (fun i hi => by rw [h.out i hi, g.out i hi])), hW⟩
  · refine (compare_ne k j p q w hk).mono ?_
    rintro e w' ⟨rfl, hW⟩
    refine ⟨ret_int ?_, hW⟩
    rcases Nat.lt_or_gt_of_ne hk with hl | hl
    · have := h.cnt_lt g hl; rw [cmpI_lt (by omega), cmpI_lt (by omega)]
    · have := g.cnt_lt h hl; rw [cmpI_gt (by omega), cmpI_gt (by omega)]

set_option maxHeartbeats 1000000 in
set_option maxRecDepth 100000 in
theorem implCompare_any (a b : ByteArray) (w : World) (hsa : a.size ≤ maxLen) (hsb : b.size ≤ maxLen) :
    Calls Try.prog 8 #[.string a, .string b] w fun e w' => e = cmpAns a b ∧ Below w.heap.size w w' := by
  have hz := zero_nat.1
  go_enter Try.func8, Try.ntmps8
  go_wp2_with fail
  refine (readNats_any a b _ hsa hsb).mono ?_
  rintro e w1 ⟨k, m, p, q, oa, ob, rfl, hRa, hRb, hW1⟩
  have hp := hRa.len
  have hq := hRb.len
  have hs1 := hW1.size
  have A := (NatAt.new w1 0 zP).old (.cells (natC 0 zP) 29)
  have B := NatAt.new (w1.alloc (.cells (natC 0 zP) 29)) 0 zP
  have hB : Below w.heap.size w ((w1.alloc (.cells (natC 0 zP) 29)).alloc (.cells (natC 0 zP) 29)) := (hW1.alloc (by omega) _).alloc (by simp; omega) _
  simp only [World.size_alloc] at B
  have hok : oa = goodB a.data.toList := hRa.ok
  have hok' : ob = goodB b.data.toList := hRb.ok
  cases hg : (oa && ob) with
  | true =>
    have HG : Hid ((goodB a.data.toList && goodB b.data.toList) = true) := by unfold Hid; rw [← hok, ← hok']; exact hg
    have ra : Rep (dval a.data.toList) k p := hRa.rep (by have := HG.out; simp only [Bool.and_eq_true] at this; exact this.1)
    have rb : Rep (dval b.data.toList) m q := hRb.rep (by have := HG.out; simp only [Bool.and_eq_true] at this; exact this.2)
    clear hg
    go_wp2_with (first | (refine store_nat rfl _ _ rfl rfl w1.heap.size k p rfl rfl 0 zP A zP_len hp ?_; intro w2 hN2 hg2 hs2) | (refine store_nat rfl _ _ rfl rfl (w1.heap.size + 1) m q rfl rfl 0 zP (B.grown hg2 (by simp)) zP_len hq ?_; intro w3 hN3 hg3 hs3) | (refine load_nat rfl _ rfl w1.heap.size rfl k p (hN2.grown hg3 (by simp)) hp ?_) | (refine load_nat rfl _ rfl (w1.heap.size + 1) rfl m q hN3 hq ?_))
    refine (compare_rep w3 ra rb).mono ?_
    rintro e w4 ⟨rfl, hW4⟩
    have hB3 : Below w.heap.size w w3 := (hB.grown hg2 (by simp; omega) (by intro k hk; cases hk; omega)).grown hg3 (by rw [hs2]; simp; omega) (by intro k hk; cases hk; omega)
    have hs3 := hB3.size
    go_wp2
    go_ret2
    exact ⟨cmpAns_yes HG.out, hB3.trans (hW4.mono (by omega))⟩
  | false =>
    have HG : Hid ((goodB a.data.toList && goodB b.data.toList) = false) := by unfold Hid; rw [← hok, ← hok']; exact hg
    clear hg
    go_wp2_with (first | (refine store_nat rfl _ _ rfl rfl w1.heap.size k p rfl rfl 0 zP A zP_len hp ?_; intro w2 hN2 hg2 hs2) | (refine store_nat rfl _ _ rfl rfl (w1.heap.size + 1) m q rfl rfl 0 zP (B.grown hg2 (by simp)) zP_len hq ?_; intro w3 hN3 hg3 hs3))
    go_ret2
    exact ⟨cmpAns_no HG.out, (hB.grown hg2 (by simp; omega) (by intro k hk; cases hk; omega)).grown hg3 (by rw [hs2]; simp; omega) (by intro k hk; cases hk; omega)⟩
end Go.Proofs.Ytnjfmjpbfidboaa
