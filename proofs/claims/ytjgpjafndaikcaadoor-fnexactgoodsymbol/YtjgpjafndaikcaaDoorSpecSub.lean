/-
  What spec.l1Sub and spec.SubNat answer.
-/
import Derived.Test.YtjgpjafndaikcaaDoorAns
import Derived.Test.YtjgpjafndaikcaaDoorMinus
namespace Go.Proofs.YtjgpjafndaikcaaDoor
open Go.RowKit
set_option linter.unusedVariables false

theorem canon_le_size {a b : ByteArray} (ha : canonB a.data.toList = true) (hb : canonB b.data.toList = true) (h : dval b.data.toList ≤ dval a.data.toList) : b.size ≤ a.size := by
  have e1 : a.data.toList.length = a.size := by simp
  have e2 : b.data.toList.length = b.size := by simp
  by_cases hc : b.size ≤ a.size
  · exact hc
  · have := canon_len_lt ha hb (by omega); omega

set_option maxHeartbeats 1000000 in
set_option maxRecDepth 100000 in
theorem l1Sub_any (a b : ByteArray) (w : World) (hsa : a.size ≤ 4000) (hsb : b.size ≤ 4000) (ha : canonB a.data.toList = true) (hb : canonB b.data.toList = true) (hab : dval b.data.toList ≤ dval a.data.toList) :
    Calls Tryd.prog 55 #[.string a, .string b] w fun e w' => ∃ s : ByteArray, e = .returned (.string s) ∧ canonB s.data.toList = true ∧ dval s.data.toList = dval a.data.toList - dval b.data.toList ∧ Below w.heap.size w w' := by
  have HA : Hid (a.data.toList.all isDig = true) := canon_all ha
  have HB : Hid (b.data.toList.all isDig = true) := canon_all hb
  have hap : 0 < a.size := canon_sz ha
  have hbp : 0 < b.size := canon_sz hb
  have hge : (b.size + 3) / 4 ≤ (a.size + 3) / 4 := by
    have := canon_le_size ha hb hab; omega
  have HAB : Hid (dval b.data.toList ≤ dval a.data.toList) := hab
  clear ha hb hab
  go_enter Tryd.func55, Tryd.ntmps55
  go_wp2_with fail
  refine (l1Limbs_any a _ hsa HA.out).mono ?_
  rintro e w1 ⟨v1, l1, rfl, hown1, h11, h12, hbd1, hval1, hW1⟩
  have HV1 : Hid ((∀ x ∈ l1, 0 ≤ x ∧ x < 10000) ∧ vb 10000 l1 = (dval a.data.toList : Int)) := ⟨hbd1, hval1⟩
  clear hbd1 hval1
  go_wp2_with fail
  refine (l1Limbs_any b _ hsb HB.out).mono ?_
  rintro e w2 ⟨v2, l2, rfl, hown2, h21, h22, hbd2, hval2, hW2⟩
  have HV2 : Hid ((∀ x ∈ l2, 0 ≤ x ∧ x < 10000) ∧ vb 10000 l2 = (dval b.data.toList : Int)) := ⟨hbd2, hval2⟩
  obtain ⟨g1, c1, rfl, hg1, hg1s, hc1, hm1⟩ := own_form hown1 (by omega)
  obtain ⟨g2, c2, rfl, hg2, hg2s, hc2, hm2⟩ := own_form hown2 (by omega)
  have hown1' := hown1.kept (below_grown hW2) (by simp [Value.ownBlock])
  have hB2 : Below w.heap.size w w2 := hW1.trans (hW2.mono hW1.size)
  have hs1 := hW1.size
  have hs2 := hW2.size
  obtain ⟨n1, hn1⟩ : ∃ n1, n1 = l1.length := ⟨_, rfl⟩
  obtain ⟨n2, hn2⟩ : ∃ n2, n2 = l2.length := ⟨_, rfl⟩
  have HN : Hid (n1 = l1.length ∧ n2 = l2.length) := ⟨hn1, hn2⟩
  rw [← hn1] at hown1' h11 h12 hc1
  rw [← hn2] at hown2 h21 h22 hc2
  rw [← hn1, ← hn2]
  have hle : (n2 : Int) ≤ (n1 : Int) := by omega
  have hn1b : (n1 : Int) ≤ 1001 := by omega
  have hn2p : 0 < n2 := by omega
  unfold maxLen at hm1 hm2
  clear hown1 hW1 hW2 hbd2 hval2 hn1 hn2 h11 h12 h21 h22 hge
  go_wp2
  go_loopg [13] n2 (fun gh i wr => ∃ t : Nat, gh = n2 - t ∧ t ≤ n2 ∧ i = .int .i64 (t : Int) ∧ wr.ownsRow w.heap.size 3 1 (.slice (some ⟨g1, 0, none⟩) n1 c1) n1 (ints (subTo l1 l2 1 0 t)) ∧ wr.ownsRow w1.heap.size 3 1 (.slice (some ⟨g2, 0, none⟩) n2 c2) n2 (ints l2) ∧ Below w.heap.size w wr)
  case atStart => exact ⟨0, rfl, by omega, rfl, hown1', hown2, hB2⟩
  case round =>
    obtain ⟨t, rfl, ht, rfl, hX, hY, hW⟩ := hrel
    clear hown1' hown2 hB2
    obtain ⟨hn1, hn2⟩ := HN.out
    have hlx : (subTo l1 l2 1 0 t).length = n1 := by rw [subTo_len]; exact hn1.symm
    by_cases hlt : (t : Int) < (n2 : Int)
    · have cx := own_cell hX t (by omega)
      rw [show (subTo l1 l2 1 0 t).getD t 0 = (subTo l1 l2 1 0 t).getD (0 + t) 0 by rw [Nat.zero_add]] at cx
      have cy := own_cell hY t (by omega)
      have hfr := own_fr hX t
      obtain ⟨x, hx⟩ : ∃ x, x = (subTo l1 l2 1 0 t).getD (0 + t) 0 := ⟨_, rfl⟩
      obtain ⟨y, hy⟩ : ∃ y, y = l2.getD t 0 := ⟨_, rfl⟩
      have hxb : 0 ≤ x ∧ x < 10000 := by rw [hx, subTo_get _ _ _ _ _ _ (by omega), if_neg (by omega)]; exact limb_bd HV1.out.1 _
      have hyb : 0 ≤ y ∧ y < 10000 := by rw [hy]; exact limb_bd HV2.out.1 t
      obtain ⟨hx0, hx1⟩ := hxb
      obtain ⟨hy0, hy1⟩ := hyb
      rw [← hx] at cx
      rw [← hy] at cy
      have HX : Hid (x = (subTo l1 l2 1 0 t).getD (0 + t) 0 ∧ y = l2.getD t 0) := ⟨hx, hy⟩
      have hgne : g1 ≠ g2 := by omega
      have ht1 : (t : Int) < (n1 : Int) := by omega
      clear hx hy hn1 hn2 hlx
      go_wp2
      go_roundg (n2 - (t + 1))
      case measure => omega
      case rel =>
        obtain ⟨hx, hy⟩ := HX.out
        refine ⟨t + 1, rfl, by omega, by go_num, ?_, ?_, hW.setCell hg1 _⟩
        · have h1 := own_set hX t (x - y)
          show World.ownsRow _ _ _ _ _ _ (ints ((subTo l1 l2 1 0 t).set (0 + t) ((subTo l1 l2 1 0 t).getD (0 + t) 0 - 1 * l2.getD t 0)))
          rw [← hx, ← hy, Int.one_mul, Nat.zero_add]
          exact h1
        · exact hY.kept (row := some g1) ⟨rfl, rfl, rfl, by simp [World.setCell], fun k _ hk => Below.heap_setCell _ _ _ _ (fun e => hk (by rw [e]))⟩ (.inr (by simp [Value.ownBlock]; omega))
    · have htn : t = n2 := by omega
      subst htn
      have hlx' : (subTo l1 l2 1 0 t).length = n1 := hlx
      have hval : Hid (vb 10000 (subTo l1 l2 1 0 t) = ((dval a.data.toList - dval b.data.toList : Nat) : Int)) := by
        unfold Hid
        rw [subTo_val _ _ _ _ _ _ (by omega) (by omega), List.take_of_length_le (by omega), HV1.out.2, HV2.out.2]
        have := HAB.out
        simp; omega
      have hbd : Hid (∀ i, -1000000000000 ≤ (subTo l1 l2 1 0 t).getD i 0 ∧ (subTo l1 l2 1 0 t).getD i 0 ≤ 1000000000000) := fun i => by
        rw [subTo_get _ _ _ _ _ _ (by omega)]
        have := limb_bd HV1.out.1 i; have := limb_bd HV2.out.1 (i - 0)
        split <;> omega
      have HLX : Hid ((subTo l1 l2 1 0 t).length = n1) := hlx
      have hWs := hW.size
      clear hn1 hn2 hlx hlx'
      go_wp2_with fail
      refine (l1Carry_any w.heap.size _ (subTo l1 l2 1 0 t) wr (by rw [HLX.out]; exact hX) hWs (by rw [HLX.out]; omega) (by rw [HLX.out]; omega) hbd.out).mono ?_
      rintro e w3 ⟨v3, r, rfl, hown3, hbd3, hval3, hl3, hl4, hW3⟩
      have hv3 : vb 10000 r = ((dval a.data.toList - dval b.data.toList : Nat) : Int) := by rw [hval3 (by rw [hval.out]; omega), hval.out]
      have HV3 : Hid (vb 10000 r = ((dval a.data.toList - dval b.data.toList : Nat) : Int)) := hv3
      have hB3 : Below w.heap.size w w3 := hW.trans hW3
      have hW3s := hB3.size
      rw [HLX.out] at hl3 hl4
      clear hv3 hval3 hX hY hW hW3
      go_wp2_with fail
      refine (l1Text_any w.heap.size v3 r w3 hown3 (by omega) (by omega) hbd3).mono ?_
      rintro e w4 ⟨s, rfl, hsc, hsv, hW4⟩
      have HS : Hid (canonB s.data.toList = true ∧ (dval s.data.toList : Int) = vb 10000 r) := ⟨hsc, hsv⟩
      clear hsc hsv hbd3
      go_wp2
      go_ret
      obtain ⟨hsc, hsv⟩ := HS.out
      have := HV3.out
      exact ⟨s, rfl, hsc, by omega, hB3.trans (hW4.mono hW3s)⟩


/-- May b be taken from a? -/
def subOk (a b : ByteArray) : Bool := (goodB a.data.toList && goodB b.data.toList) && decide (dval b.data.toList ≤ dval a.data.toList)

end Go.Proofs.YtjgpjafndaikcaaDoor
