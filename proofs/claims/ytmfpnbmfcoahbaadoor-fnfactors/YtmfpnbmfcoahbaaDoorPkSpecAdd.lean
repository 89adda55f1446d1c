/-
  The texts SpecAdd, Ans, one behind the other.
-/
import Derived.Test.YtmfpnbmfcoahbaaDoorPkSpecText
import Derived.Test.YtmfpnbmfcoahbaaDoorPkRead
import Derived.WideShapes

/-
  What spec.l1Add and spec.AddNat answer.
-/
namespace Go.Proofs.YtmfpnbmfcoahbaaDoor
open Go.RowKit
set_option linter.unusedVariables false

theorem canon_sz {a : ByteArray} (h : canonB a.data.toList = true) : 0 < a.size := by
  have := canon_pos h
  have e : a.data.toList.length = a.size := by simp
  omega

theorem limb_bd {l : List Int} (bd : ∀ x ∈ l, 0 ≤ x ∧ x < 10000) (i : Nat) : 0 ≤ l.getD i 0 ∧ l.getD i 0 < 10000 := getD_bd bd i

set_option maxHeartbeats 1000000 in
set_option maxRecDepth 100000 in
theorem l1Add_ge (a b : ByteArray) (w : World) (hsa : a.size ≤ 4000) (hsb : b.size ≤ 4000) (ha : canonB a.data.toList = true) (hb : canonB b.data.toList = true) (hge : (b.size + 3) / 4 ≤ (a.size + 3) / 4) :
    Calls Tryd.prog 47 #[.string a, .string b] w fun e w' => ∃ s : ByteArray, e = .returned (.string s) ∧ canonB s.data.toList = true ∧ dval s.data.toList = dval a.data.toList + dval b.data.toList ∧ Below w.heap.size w w' := by
  have HA : Hid (a.data.toList.all isDig = true) := canon_all ha
  have HB : Hid (b.data.toList.all isDig = true) := canon_all hb
  have hap : 0 < a.size := canon_sz ha
  have hbp : 0 < b.size := canon_sz hb
  clear ha hb
  go_enter Tryd.func47, Tryd.ntmps47
  go_wp2_with fail
  refine (l1Limbs_any a _ hsa HA.out).mono ?_
  rintro e w1 ⟨v1, l1, rfl, hown1, h11, h12, hbd1, hval1, hW1⟩
  have HV1 : Hid ((∀ x ∈ l1, 0 ≤ x ∧ x < 10000) ∧ vb 10000 l1 = (dval a.data.toList : Int)) := ⟨hbd1, hval1⟩
  clear hbd1 hval1
  go_wp2_with fail
  refine (l1Limbs_any b _ hsb HB.out).mono ?_
  rintro e w2 ⟨v2, l2, rfl, hown2, h21, h22, hbd2, hval2, hW2⟩
  have HV2 : Hid ((∀ x ∈ l2, 0 ≤ x ∧ x < 10000) ∧ vb 10000 l2 = (dval b.data.toList : Int)) := ⟨hbd2, hval2⟩
  obtain ⟨g1, c1, rfl, hg1, hg1s, hc1, hm1⟩ := own_form hown1 (by omega)
  obtain ⟨g2, c2, rfl, hg2, hg2s, hc2, hm2⟩ := own_form hown2 (by omega)
  have hown1' := hown1.kept (below_grown hW2) (by simp [Value.ownBlock])
  have hB2 : Below w.heap.size w w2 := hW1.trans (hW2.mono hW1.size)
  have hs1 := hW1.size
  have hs2 := hW2.size
  obtain ⟨n1, hn1⟩ : ∃ n1, n1 = l1.length := ⟨_, rfl⟩
  obtain ⟨n2, hn2⟩ : ∃ n2, n2 = l2.length := ⟨_, rfl⟩
  have HN : Hid (n1 = l1.length ∧ n2 = l2.length) := ⟨hn1, hn2⟩
  rw [← hn1] at hown1' h11 h12 hc1
  rw [← hn2] at hown2 h21 h22 hc2
  rw [← hn1, ← hn2]
  have hle : (n2 : Int) ≤ (n1 : Int) := by omega
  have hn1b : (n1 : Int) ≤ 1001 := by omega
  have hn2p : 0 < n2 := by omega
  unfold maxLen at hm1 hm2
  clear hown1 hW1 hW2 hbd2 hval2 hn1 hn2 h11 h12 h21 h22 hge
  go_wp2
  go_loopg [23] n2 (fun gh i wr => ∃ t : Nat, gh = n2 - t ∧ t ≤ n2 ∧ i = .int .i64 (t : Int) ∧ wr.ownsRow w.heap.size 3 1 (.slice (some ⟨g1, 0, none⟩) n1 c1) n1 (ints (addTo l1 l2 t)) ∧ wr.ownsRow w1.heap.size 3 1 (.slice (some ⟨g2, 0, none⟩) n2 c2) n2 (ints l2) ∧ Below w.heap.size w wr)
  case atStart => exact ⟨0, rfl, by omega, rfl, hown1', hown2, hB2⟩
  case round =>
    obtain ⟨t, rfl, ht, rfl, hX, hY, hW⟩ := hrel
    clear hown1' hown2 hB2
    obtain ⟨hn1, hn2⟩ := HN.out
    have hlx : (addTo l1 l2 t).length = n1 := by rw [addTo_len]; exact hn1.symm
    by_cases hlt : (t : Int) < (n2 : Int)
    · have cx := own_cell hX t (by omega)
      have cy := own_cell hY t (by omega)
      have hfr := own_fr hX t
      obtain ⟨x, hx⟩ : ∃ x, x = (addTo l1 l2 t).getD t 0 := ⟨_, rfl⟩
      obtain ⟨y, hy⟩ : ∃ y, y = l2.getD t 0 := ⟨_, rfl⟩
      have hxb : 0 ≤ x ∧ x < 10000 := by rw [hx, addTo_get _ _ _ _ (by omega), if_neg (by omega)]; exact limb_bd HV1.out.1 t
      have hyb : 0 ≤ y ∧ y < 10000 := by rw [hy]; exact limb_bd HV2.out.1 t
      obtain ⟨hx0, hx1⟩ := hxb
      obtain ⟨hy0, hy1⟩ := hyb
      rw [← hx] at cx
      rw [← hy] at cy
      have HX : Hid (x = (addTo l1 l2 t).getD t 0 ∧ y = l2.getD t 0) := ⟨hx, hy⟩
      have hgne : g1 ≠ g2 := by omega
      have ht1 : (t : Int) < (n1 : Int) := by omega
      clear hx hy hn1 hn2 hlx
      go_wp2
      go_roundg (n2 - (t + 1))
      case measure => omega
      case rel =>
        obtain ⟨hx, hy⟩ := HX.out
        refine ⟨t + 1, rfl, by omega, by go_num, ?_, ?_, hW.setCell hg1 _⟩
        · have h1 := own_set hX t (x + y)
          show World.ownsRow _ _ _ _ _ _ (ints ((addTo l1 l2 t).set t ((addTo l1 l2 t).getD t 0 + l2.getD t 0)))
          rw [← hx, ← hy]
          exact h1
        · exact hY.kept (row := some g1) ⟨rfl, rfl, rfl, by simp [World.setCell], fun k _ hk => Below.heap_setCell _ _ _ _ (fun e => hk (by rw [e]))⟩ (.inr (by simp [Value.ownBlock]; omega))
    · have htn : t = n2 := by omega
      subst htn
      have hlx' : (addTo l1 l2 t).length = n1 := hlx
      have hval : Hid (vb 10000 (addTo l1 l2 t) = ((dval a.data.toList + dval b.data.toList : Nat) : Int)) := by
        unfold Hid
        rw [addTo_val _ _ _ _ (by omega) (by omega), List.take_of_length_le (by omega), HV1.out.2, HV2.out.2]; omega
      have hbd : Hid (∀ i, -1000000000000 ≤ (addTo l1 l2 t).getD i 0 ∧ (addTo l1 l2 t).getD i 0 ≤ 1000000000000) := fun i => by
        rw [addTo_get _ _ _ _ (by omega)]
        have := limb_bd HV1.out.1 i; have := limb_bd HV2.out.1 i
        split <;> omega
      have HLX : Hid ((addTo l1 l2 t).length = n1) := hlx
      have hWs := hW.size
      clear hn1 hn2 hlx hlx'
      go_wp2_with fail
      refine (l1Carry_any w.heap.size _ (addTo l1 l2 t) wr (by rw [HLX.out]; exact hX) hWs (by rw [HLX.out]; omega) (by rw [HLX.out]; omega) hbd.out).mono ?_
      rintro e w3 ⟨v3, r, rfl, hown3, hbd3, hval3, hl3, hl4, hW3⟩
      have hv3 : vb 10000 r = ((dval a.data.toList + dval b.data.toList : Nat) : Int) := by rw [hval3 (by rw [hval.out]; omega), hval.out]
      have HV3 : Hid (vb 10000 r = ((dval a.data.toList + dval b.data.toList : Nat) : Int)) := hv3
      have hB3 : Below w.heap.size w w3 := hW.trans hW3
      have hW3s := hB3.size
      rw [HLX.out] at hl3 hl4
      clear hv3 hval3 hX hY hW hW3
      go_wp2_with fail
      refine (l1Text_any w.heap.size v3 r w3 hown3 (by omega) (by omega) hbd3).mono ?_
      rintro e w4 ⟨s, rfl, hsc, hsv, hW4⟩
      have HS : Hid (canonB s.data.toList = true ∧ (dval s.data.toList : Int) = vb 10000 r) := ⟨hsc, hsv⟩
      clear hsc hsv hbd3
      go_wp2
      go_ret
      obtain ⟨hsc, hsv⟩ := HS.out
      have := HV3.out
      exact ⟨s, rfl, hsc, by omega, hB3.trans (hW4.mono hW3s)⟩

set_option maxHeartbeats 1000000 in
set_option maxRecDepth 100000 in
theorem l1Add_any (a b : ByteArray) (w : World) (hsa : a.size ≤ 4000) (hsb : b.size ≤ 4000) (ha : canonB a.data.toList = true) (hb : canonB b.data.toList = true) :
    Calls Tryd.prog 47 #[.string a, .string b] w fun e w' => ∃ s : ByteArray, e = .returned (.string s) ∧ canonB s.data.toList = true ∧ dval s.data.toList = dval a.data.toList + dval b.data.toList ∧ Below w.heap.size w w' := by
  by_cases hge : (b.size + 3) / 4 ≤ (a.size + 3) / 4
  · exact l1Add_ge a b w hsa hsb ha hb hge
  · have hrec := fun w => l1Add_ge b a w hsb hsa hb ha (by omega)
    have HR := hideT hrec
    have HA : Hid (a.data.toList.all isDig = true) := canon_all ha
    have HB : Hid (b.data.toList.all isDig = true) := canon_all hb
    have hap : 0 < a.size := canon_sz ha
    have hbp : 0 < b.size := canon_sz hb
    clear ha hb hrec
    go_enter Tryd.func47, Tryd.ntmps47
    go_wp2_with fail
    refine (l1Limbs_any a _ hsa HA.out).mono ?_
    rintro e w1 ⟨v1, l1, rfl, hown1, h11, h12, hbd1, hval1, hW1⟩
    clear hbd1 hval1
    go_wp2_with fail
    refine (l1Limbs_any b _ hsb HB.out).mono ?_
    rintro e w2 ⟨v2, l2, rfl, hown2, h21, h22, hbd2, hval2, hW2⟩
    obtain ⟨g1, c1, rfl, hg1, hg1s, hc1, hm1⟩ := own_form hown1 (by omega)
    obtain ⟨g2, c2, rfl, hg2, hg2s, hc2, hm2⟩ := own_form hown2 (by omega)
    have hB2 : Below w.heap.size w w2 := hW1.trans (hW2.mono hW1.size)
    have hs2 := hB2.size
    have hlt : (l1.length : Int) < (l2.length : Int) := by omega
    clear hown1 hown2 hW1 hW2 hbd2 hval2
    go_wp2_with fail
    refine (HR.out w2).mono ?_
    rintro e w3 ⟨s, rfl, hsc, hsv, hW3⟩
    have HS : Hid (canonB s.data.toList = true ∧ dval s.data.toList = dval b.data.toList + dval a.data.toList) := ⟨hsc, hsv⟩
    clear hsc hsv
    go_wp2
    go_ret
    obtain ⟨hsc, hsv⟩ := HS.out
    exact ⟨s, rfl, hsc, by omega, hB2.trans (hW3.mono hs2)⟩

/-- What a function on natural numbers' texts that answers a number tells: n's text, where it has at most 600 digits. -/
def Tells (n : Nat) (e : Ending) : Prop := ∃ s : ByteArray, e = .returned (.tuple #[.string s, .bool (decide (n < 10 ^ 600))]) ∧ (n < 10 ^ 600 → canonB s.data.toList = true ∧ dval s.data.toList = n) ∧ (¬ n < 10 ^ 600 → s = ⟨#[]⟩)
/-- It tells nothing. -/
def Mute (e : Ending) : Prop := e = .returned (.tuple #[.string ⟨#[]⟩, .bool false])

theorem known_tells {s : ByteArray} {n : Nat} (hc : canonB s.data.toList = true) (hv : dval s.data.toList = n) :
    Tells n (if s.size ≤ 600 then .returned (.tuple #[.string s, .bool true]) else .returned (.tuple #[.string ⟨#[]⟩, .bool false])) := by
  have h := canon_len_le hc 600 (by omega)
  have e : s.data.toList.length = s.size := by simp
  rw [e, hv] at h
  by_cases hs : s.size ≤ 600
  · have hn := h.1 hs
    rw [if_pos hs]
    exact ⟨s, by rw [decide_eq_true hn], fun _ => ⟨hc, hv⟩, fun h' => absurd hn h'⟩
  · have hn : ¬ n < 10 ^ 600 := fun h' => hs (h.2 h')
    rw [if_neg hs]
    exact ⟨⟨#[]⟩, by rw [decide_eq_false hn], fun h' => absurd h' hn, fun _ => rfl⟩

theorem canon_size {s : ByteArray} {n k : Nat} (hk : 1 ≤ k) (hc : canonB s.data.toList = true) (hv : dval s.data.toList = n) (hn : n < 10 ^ k) : s.size ≤ k := by
  have h := (canon_len_le hc k hk).2 (by rw [hv]; exact hn)
  simpa using h

theorem add_lt_pow (k : Nat) {a b : Nat} (ha : a < 10 ^ k) (hb : b < 10 ^ k) : a + b < 10 ^ (k + 1) := by rw [Nat.pow_succ]; omega
theorem good_lt {l : List UInt8} (h : goodB l = true) : dval l < 10 ^ 600 := (canon_len_le (good_canon h) 600 (by omega)).1 (good_len h)

/-- What AddNat should answer. -/
def AddAns (a b : ByteArray) (e : Ending) : Prop := ((goodB a.data.toList && goodB b.data.toList) = true ∧ Tells (dval a.data.toList + dval b.data.toList) e) ∨ ((goodB a.data.toList && goodB b.data.toList) = false ∧ Mute e)

end Go.Proofs.YtmfpnbmfcoahbaaDoor

/-
  Two answers that tell the same number are the same.
-/
namespace Go.Proofs.YtmfpnbmfcoahbaaDoor
open Go.RowKit
set_option linter.unusedVariables false

theorem Tells.same {n : Nat} {e e' : Ending} (h : Tells n e) (h' : Tells n e') : ∃ (s : ByteArray) (o : Bool), e = .returned (.tuple #[.string s, .bool o]) ∧ e' = .returned (.tuple #[.string s, .bool o]) := by
  obtain ⟨s, rfl, h1, h2⟩ := h
  obtain ⟨s', rfl, h1', h2'⟩ := h'
  have : s = s' := by
    by_cases hn : n < 10 ^ 600
    · obtain ⟨c1, v1⟩ := h1 hn
      obtain ⟨c2, v2⟩ := h1' hn
      exact Go.WideShapes.bytes_inj (canon_inj c1 c2 (by rw [v1, v2]))
    · rw [h2 hn, h2' hn]
  subst this
  exact ⟨s, _, rfl, rfl⟩
theorem Mute.same {e e' : Ending} (h : Mute e) (h' : Mute e') : ∃ (s : ByteArray) (o : Bool), e = .returned (.tuple #[.string s, .bool o]) ∧ e' = .returned (.tuple #[.string s, .bool o]) :=
  ⟨⟨#[]⟩, false, h, h'⟩

/-- What a function of two numbers' texts should answer: what n says of the numbers. -/
def Ans (g : Bool) (n : Nat) (e : Ending) : Prop := (g = true ∧ Tells n e) ∨ (g = false ∧ Mute e)
theorem Ans.same {g : Bool} {n : Nat} {e e' : Ending} (h : Ans g n e) (h' : Ans g n e') : ∃ (s : ByteArray) (o : Bool), e = .returned (.tuple #[.string s, .bool o]) ∧ e' = .returned (.tuple #[.string s, .bool o]) := by
  rcases h with ⟨g1, h⟩ | ⟨g1, h⟩ <;> rcases h' with ⟨g2, h'⟩ | ⟨g2, h'⟩
  · exact h.same h'
  · rw [g1] at g2; cases g2
  · rw [g1] at g2; cases g2
  · exact h.same h'
theorem AddAns.same {a b : ByteArray} {e e' : Ending} (h : AddAns a b e) (h' : AddAns a b e') : ∃ (s : ByteArray) (o : Bool), e = .returned (.tuple #[.string s, .bool o]) ∧ e' = .returned (.tuple #[.string s, .bool o]) :=
  Ans.same (g := goodB a.data.toList && goodB b.data.toList) (n := dval a.data.toList + dval b.data.toList) h h'
end Go.Proofs.YtmfpnbmfcoahbaaDoor
