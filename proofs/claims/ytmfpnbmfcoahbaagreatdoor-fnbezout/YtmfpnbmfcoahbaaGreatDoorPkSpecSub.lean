/-
  The texts SpecSub, SpecDiv, SpecGcd, SpecOfRadix, SpecSum, SpecToRadix, SpecGcdNat, one behind the other.
-/
import Derived.Test.YtmfpnbmfcoahbaaGreatDoorPkSpecAdd
import Derived.Test.YtmfpnbmfcoahbaaGreatDoorPkMinus
import Derived.Test.YtmfpnbmfcoahbaaGreatDoorPkSpecText
import Derived.Test.YtmfpnbmfcoahbaaGreatDoorPkGood
import Derived.Test.YtmfpnbmfcoahbaaGreatDoorPkLimbs
import Derived.Test.YtmfpnbmfcoahbaaGreatDoorPkLehmer
import Derived.Test.YtmfpnbmfcoahbaaGreatDoorFlt
import Derived.Test.YtmfpnbmfcoahbaaGreatDoorRadixText
import Derived.Test.YtmfpnbmfcoahbaaGreatDoorPkRead

/-
  What spec.l1Sub and spec.SubNat answer.
-/
namespace Go.Proofs.YtmfpnbmfcoahbaaGreatDoor
open Go.RowKit
set_option linter.unusedVariables false

theorem canon_le_size {a b : ByteArray} (ha : canonB a.data.toList = true) (hb : canonB b.data.toList = true) (h : dval b.data.toList ≤ dval a.data.toList) : b.size ≤ a.size := by
  have e1 : a.data.toList.length = a.size := by simp
  have e2 : b.data.toList.length = b.size := by simp
  by_cases hc : b.size ≤ a.size
  · exact hc
  · have := canon_len_lt ha hb (by omega); omega

set_option maxHeartbeats 1000000 in
set_option maxRecDepth 100000 in
theorem l1Sub_any (a b : ByteArray) (w : World) (hsa : a.size ≤ 4000) (hsb : b.size ≤ 4000) (ha : canonB a.data.toList = true) (hb : canonB b.data.toList = true) (hab : dval b.data.toList ≤ dval a.data.toList) :
    Calls Tryz.prog 65 #[.string a, .string b] w fun e w' => ∃ s : ByteArray, e = .returned (.string s) ∧ canonB s.data.toList = true ∧ dval s.data.toList = dval a.data.toList - dval b.data.toList ∧ Below w.heap.size w w' := by
  have HA : Hid (a.data.toList.all isDig = true) := canon_all ha
  have HB : Hid (b.data.toList.all isDig = true) := canon_all hb
  have hap : 0 < a.size := canon_sz ha
  have hbp : 0 < b.size := canon_sz hb
  have hge : (b.size + 3) / 4 ≤ (a.size + 3) / 4 := by
    have := canon_le_size ha hb hab; omega
  have HAB : Hid (dval b.data.toList ≤ dval a.data.toList) := hab
  clear ha hb hab
  go_enter Tryz.func65, Tryz.ntmps65
  go_wp2_with fail
  refine (l1Limbs_any a _ hsa HA.out).mono ?_
  rintro e w1 ⟨v1, l1, rfl, hown1, h11, h12, hbd1, hval1, hW1⟩
  have HV1 : Hid ((∀ x ∈ l1, 0 ≤ x ∧ x < 10000) ∧ vb 10000 l1 = (dval a.data.toList : Int)) := ⟨hbd1, hval1⟩
  clear hbd1 hval1
  go_wp2_with fail
  refine (l1Limbs_any b _ hsb HB.out).mono ?_
  rintro e w2 ⟨v2, l2, rfl, hown2, h21, h22, hbd2, hval2, hW2⟩
  have HV2 : Hid ((∀ x ∈ l2, 0 ≤ x ∧ x < 10000) ∧ vb 10000 l2 = (dval b.data.toList : Int)) := ⟨hbd2, hval2⟩
  obtain ⟨g1, c1, rfl, hg1, hg1s, hc1, hm1⟩ := own_form hown1 (by omega)
  obtain ⟨g2, c2, rfl, hg2, hg2s, hc2, hm2⟩ := own_form hown2 (by omega)
  have hown1' := hown1.kept (below_grown hW2) (by simp [Value.ownBlock])
  have hB2 : Below w.heap.size w w2 := hW1.trans (hW2.mono hW1.size)
  have hs1 := hW1.size
  have hs2 := hW2.size
  obtain ⟨n1, hn1⟩ : ∃ n1, n1 = l1.length := ⟨_, rfl⟩
  obtain ⟨n2, hn2⟩ : ∃ n2, n2 = l2.length := ⟨_, rfl⟩
  have HN : Hid (n1 = l1.length ∧ n2 = l2.length) := ⟨hn1, hn2⟩
  rw [← hn1] at hown1' h11 h12 hc1
  rw [← hn2] at hown2 h21 h22 hc2
  rw [← hn1, ← hn2]
  have hle : (n2 : Int) ≤ (n1 : Int) := by omega
  have hn1b : (n1 : Int) ≤ 1001 := by omega
  have hn2p : 0 < n2 := by omega
  unfold maxLen at hm1 hm2
  clear hown1 hW1 hW2 hbd2 hval2 hn1 hn2 h11 h12 h21 h22 hge
  go_wp2
  go_loopg [13] n2 (fun gh i wr => ∃ t : Nat, gh = n2 - t ∧ t ≤ n2 ∧ i = .int .i64 (t : Int) ∧ wr.ownsRow w.heap.size 3 1 (.slice (some ⟨g1, 0, none⟩) n1 c1) n1 (ints (subTo l1 l2 1 0 t)) ∧ wr.ownsRow w1.heap.size 3 1 (.slice (some ⟨g2, 0, none⟩) n2 c2) n2 (ints l2) ∧ Below w.heap.size w wr)
  case atStart => exact ⟨0, rfl, by omega, rfl, hown1', hown2, hB2⟩
  case round =>
    obtain ⟨t, rfl, ht, rfl, hX, hY, hW⟩ := hrel
    clear hown1' hown2 hB2
    obtain ⟨hn1, hn2⟩ := HN.out
    have hlx : (subTo l1 l2 1 0 t).length = n1 := by rw [subTo_len]; exact hn1.symm
    by_cases hlt : (t : Int) < (n2 : Int)
    · have cx := own_cell hX t (by omega)
      rw [show (subTo l1 l2 1 0 t).getD t 0 = (subTo l1 l2 1 0 t).getD (0 + t) 0 by rw [Nat.zero_add]] at cx
      have cy := own_cell hY t (by omega)
      have hfr := own_fr hX t
      obtain ⟨x, hx⟩ : ∃ x, x = (subTo l1 l2 1 0 t).getD (0 + t) 0 := ⟨_, rfl⟩
      obtain ⟨y, hy⟩ : ∃ y, y = l2.getD t 0 := ⟨_, rfl⟩
      have hxb : 0 ≤ x ∧ x < 10000 := by rw [hx, subTo_get _ _ _ _ _ _ (by omega), if_neg (by omega)]; exact limb_bd HV1.out.1 _
      have hyb : 0 ≤ y ∧ y < 10000 := by rw [hy]; exact limb_bd HV2.out.1 t
      obtain ⟨hx0, hx1⟩ := hxb
      obtain ⟨hy0, hy1⟩ := hyb
      rw [← hx] at cx
      rw [← hy] at cy
      have HX : Hid (x = (subTo l1 l2 1 0 t).getD (0 + t) 0 ∧ y = l2.getD t 0) := ⟨hx, hy⟩
      have hgne : g1 ≠ g2 := by omega
      have ht1 : (t : Int) < (n1 : Int) := by omega
      clear hx hy hn1 hn2 hlx
      go_wp2
      go_roundg (n2 - (t + 1))
      case measure => omega
      case rel =>
        obtain ⟨hx, hy⟩ := HX.out
        refine ⟨t + 1, rfl, by omega, by go_num, ?_, ?_, hW.setCell hg1 _⟩
        · have h1 := own_set hX t (x - y)
          show World.ownsRow _ _ _ _ _ _ (ints ((subTo l1 l2 1 0 t).set (0 + t) ((subTo l1 l2 1 0 t).getD (0 + t) 0 - 1 * l2.getD t 0)))
          rw [← hx, ← hy, Int.one_mul, Nat.zero_add]
          exact h1
        · exact hY.kept (row := some g1) ⟨rfl, rfl, rfl, by simp [World.setCell], fun k _ hk => Below.heap_setCell _ _ _ _ (fun e => hk (by rw [e]))⟩ (.inr (by simp [Value.ownBlock]; omega))
    · have htn : t = n2 := by omega
      subst htn
      have hlx' : (subTo l1 l2 1 0 t).length = n1 := hlx
      have hval : Hid (vb 10000 (subTo l1 l2 1 0 t) = ((dval a.data.toList - dval b.data.toList : Nat) : Int)) := by
        unfold Hid
        rw [subTo_val _ _ _ _ _ _ (by omega) (by omega), List.take_of_length_le (by omega), HV1.out.2, HV2.out.2]
        have := HAB.out
        simp; omega
      have hbd : Hid (∀ i, -1000000000000 ≤ (subTo l1 l2 1 0 t).getD i 0 ∧ (subTo l1 l2 1 0 t).getD i 0 ≤ 1000000000000) := fun i => by
        rw [subTo_get _ _ _ _ _ _ (by omega)]
        have := limb_bd HV1.out.1 i; have := limb_bd HV2.out.1 (i - 0)
        split <;> omega
      have HLX : Hid ((subTo l1 l2 1 0 t).length = n1) := hlx
      have hWs := hW.size
      clear hn1 hn2 hlx hlx'
      go_wp2_with fail
      refine (l1Carry_any w.heap.size _ (subTo l1 l2 1 0 t) wr (by rw [HLX.out]; exact hX) hWs (by rw [HLX.out]; omega) (by rw [HLX.out]; omega) hbd.out).mono ?_
      rintro e w3 ⟨v3, r, rfl, hown3, hbd3, hval3, hl3, hl4, hW3⟩
      have hv3 : vb 10000 r = ((dval a.data.toList - dval b.data.toList : Nat) : Int) := by rw [hval3 (by rw [hval.out]; omega), hval.out]
      have HV3 : Hid (vb 10000 r = ((dval a.data.toList - dval b.data.toList : Nat) : Int)) := hv3
      have hB3 : Below w.heap.size w w3 := hW.trans hW3
      have hW3s := hB3.size
      rw [HLX.out] at hl3 hl4
      clear hv3 hval3 hX hY hW hW3
      go_wp2_with fail
      refine (l1Text_any w.heap.size v3 r w3 hown3 (by omega) (by omega) hbd3).mono ?_
      rintro e w4 ⟨s, rfl, hsc, hsv, hW4⟩
      have HS : Hid (canonB s.data.toList = true ∧ (dval s.data.toList : Int) = vb 10000 r) := ⟨hsc, hsv⟩
      clear hsc hsv hbd3
      go_wp2
      go_ret
      obtain ⟨hsc, hsv⟩ := HS.out
      have := HV3.out
      exact ⟨s, rfl, hsc, by omega, hB3.trans (hW4.mono hW3s)⟩


/-- May b be taken from a? -/
def subOk (a b : ByteArray) : Bool := (goodB a.data.toList && goodB b.data.toList) && decide (dval b.data.toList ≤ dval a.data.toList)

end Go.Proofs.YtmfpnbmfcoahbaaGreatDoor

/-
  What spec.l1Div and spec.DivNat answer.
-/
namespace Go.Proofs.YtmfpnbmfcoahbaaGreatDoor
open Go.RowKit
set_option linter.unusedVariables false

/-- The digits of a quotient so far: none for 0. -/
def QD (l : List UInt8) (Q : Nat) : Prop := (l = [] ∧ Q = 0) ∨ (canonB l = true ∧ dval l = Q ∧ Q ≠ 0)

theorem QD.step {l : List UInt8} {Q n : Nat} (h : QD l Q) (hn : n < 10) (hc : l ≠ [] ∨ n ≠ 0) : QD (l ++ [UInt8.ofNat (48 + n)]) (10 * Q + n) := by
  obtain ⟨d1, d2⟩ := dig_ofNat n hn
  rcases h with ⟨rfl, rfl⟩ | ⟨h1, h2, h3⟩
  · have hn0 : n ≠ 0 := by rcases hc with h | h; exact absurd rfl h; exact h
    refine .inr ⟨?_, ?_, by omega⟩
    · simp only [List.nil_append, canonB, List.all_cons, List.all_nil, d1]; simp
    · rw [dval_snoc, d2]; simp [dval]
  · refine .inr ⟨canon_append h1 (by rw [h2]; exact h3) (by rw [List.all_cons, d1]; rfl), ?_, by omega⟩
    rw [dval_snoc, d2, h2]

theorem div_step {N B Q R d n s X : Nat} (hQ : Q = N / B) (hR : R = N % B) (hB : B ≠ 0) (hX : X = 10 * R + d) (hn : s + n * B = X) (hs : s < B) : 10 * Q + n = (10 * N + d) / B ∧ s = (10 * N + d) % B := by
  have h1 := Nat.div_add_mod N B
  rw [← hQ, ← hR] at h1
  have h2 : 10 * N + d = B * (10 * Q + n) + s := by
    rw [Nat.mul_add, Nat.mul_left_comm, Nat.mul_comm B n]; omega
  rw [h2, Nat.mul_add_div (by omega), Nat.div_eq_of_lt hs, Nat.mul_add_mod, Nat.mod_eq_of_lt hs]
  exact ⟨by omega, rfl⟩

theorem div_bd {R B d n s X : Nat} (hR : R < B) (hd : d < 10) (hX : X = 10 * R + d) (hn : s + n * B = X) : n < 10 := by
  by_cases h : n < 10
  · exact h
  · have := Nat.mul_le_mul_right B (show 10 ≤ n by omega)
    omega

theorem cmp_sign (x y : Nat) : (y ≤ x → 0 ≤ cmpI (x : Int) (y : Int)) ∧ (¬ y ≤ x → cmpI (x : Int) (y : Int) < 0) := by
  constructor
  · intro h; unfold cmpI; split
    · omega
    · split <;> omega
  · intro h; rw [cmpI_lt (by omega)]; omega

theorem own_form8 {w : World} {B e n : Nat} {v : Value} {xs : List Value} (h : w.ownsRow B e 1 v n xs) : ∃ o cap, v = .slice o n cap := by
  rcases h.2 with ⟨rfl, rfl⟩ | ⟨g, cap, cur, rfl, _⟩
  · exact ⟨none, 0, rfl⟩
  · exact ⟨_, _, rfl⟩

theorem own_conv {w : World} {B n : Nat} {v : Value} {l : List UInt8} (h : w.ownsRow B 5 1 v n (Lib.byteCells l)) (hn : n = l.length) (h0 : n ≠ 0) : (convert 22 9 v).run Tryz.prog w = .ok (.string ⟨l.toArray⟩) w := by
  subst hn
  rcases h.2 with ⟨_, h⟩ | ⟨g, cap, cur, rfl, hg, hh, hc, _, hsz, ht⟩
  · exact absurd h h0
  · refine run_convert_bytes_back (P := Tryz.prog) w 22 9 5 ⟨g, 0, none⟩ cap l Tryz.underlying22 Tryz.underlying5 Tryz.underlying9 (fun j hj => ?_)
    have e : (⟨g, 0, none⟩ : Addr).add j = ⟨g, j, none⟩ := by unfold Addr.add; split <;> simp_all
    rw [e, cell_of_row w g j _ _ _ hh]
    have h2 : (cur.toList.take (l.length * 1))[j]? = some (.int .u8 (l[j].toNat : Int)) := by
      rw [ht]; simp [Lib.byteCells, List.getElem?_eq_getElem hj]
    rw [List.getElem?_take_of_lt (by omega)] at h2
    simpa using h2

theorem dig_at (a : ByteArray) (i : Nat) (h : i < a.size) (ha : a.data.toList.all isDig = true) : dv a[i] < 10 :=
  dv_lt (List.all_eq_true.1 ha (a.data.toList[i]'(by simpa using h)) (List.getElem_mem _))

theorem ext_list (a : ByteArray) (i : Nat) (h : i < a.size) : (a.extract i (i + 1)).data.toList = [a[i]] := by
  have h' : i < a.data.toList.length := by simpa using h
  rw [ByteArray.data_extract, Array.toList_extract, List.extract_eq_take_drop, show i + 1 - i = 1 by omega, List.drop_eq_getElem_cons h']
  rfl

theorem ext_one (a : ByteArray) (i : Nat) (h : i < a.size) (ha : a.data.toList.all isDig = true) : canonB (a.extract i (i + 1)).data.toList = true ∧ dval (a.extract i (i + 1)).data.toList = 10 * 0 + dv a[i] := by
  have hd : isDig a[i] = true := List.all_eq_true.1 ha (a.data.toList[i]'(by simpa using h)) (List.getElem_mem _)
  rw [ext_list a i h]
  exact ⟨by simp [canonB, hd], by simp [dval]⟩

theorem app_one (t a : ByteArray) (i : Nat) (h : i < a.size) (ha : a.data.toList.all isDig = true) (ht : canonB t.data.toList = true) (h0 : dval t.data.toList ≠ 0) : canonB (t ++ a.extract i (i + 1)).data.toList = true ∧ dval (t ++ a.extract i (i + 1)).data.toList = 10 * dval t.data.toList + dv a[i] := by
  have hd : isDig a[i] = true := List.all_eq_true.1 ha (a.data.toList[i]'(by simpa using h)) (List.getElem_mem _)
  have e : (t ++ a.extract i (i + 1)).data.toList = t.data.toList ++ [a[i]] := by
    rw [ByteArray.data_append, Array.toList_append, ext_list a i h]
  rw [e, dval_snoc]
  exact ⟨canon_append ht h0 (by rw [List.all_cons, hd]; rfl), rfl⟩

theorem take_val (a : ByteArray) (i : Nat) (h : i < a.size) (ha : a.data.toList.all isDig = true) : dval (a.data.toList.take (i + 1)) = 10 * dval (a.data.toList.take i) + dv a[i] := by
  rw [take_snoc a i h, dval_snoc]

theorem bc_snoc (l : List UInt8) (m : Nat) (hm : m < 10) : Lib.byteCells (l ++ [UInt8.ofNat (48 + m)]) = Lib.byteCells l ++ [.int .u8 (48 + (m : Int))] := by
  have e : (UInt8.ofNat (48 + m)).toNat = 48 + m := by rw [UInt8.toNat_ofNat']; omega
  unfold Lib.byteCells
  rw [List.map_append]
  congr 1
  simp only [List.map_cons, List.map_nil, e]
  rfl

theorem one_byte (v : Int) : ∀ u ∈ [Value.int .u8 v], u.oneCell' = true := by
  intro u hu; simp at hu; subst hu; rfl

set_option maxHeartbeats 1000000 in
set_option maxRecDepth 100000 in
theorem l1Div_any (a b : ByteArray) (w : World) (hsa : a.size ≤ 2000) (hsb : b.size ≤ 2000) (ha : canonB a.data.toList = true) (hb : canonB b.data.toList = true) (hb0 : dval b.data.toList ≠ 0) :
    Calls Tryz.prog 34 #[.string a, .string b] w fun e w' => ∃ s t : ByteArray, e = .returned (.tuple #[.string s, .string t]) ∧ canonB s.data.toList = true ∧ dval s.data.toList = dval a.data.toList / dval b.data.toList ∧ canonB t.data.toList = true ∧ dval t.data.toList = dval a.data.toList % dval b.data.toList ∧ Below w.heap.size w w' := by
  obtain ⟨i0, hi, hz0, hz1, hz2⟩ := u8_info
  have HA := hideT (canon_all ha)
  have HB := hideT hb
  have HB0 := hideT hb0
  have HL : Hid (a.data.toList.length = a.size) := by unfold Hid; simp
  clear ha hb hb0
  go_enter Tryz.func34, Tryz.ntmps34
  go_wp2
  go_loopg [6, 7, 8] a.size (fun g v r x wr => ∃ (i : Nat) (t : ByteArray) (l : List UInt8), g = a.size - i ∧ i ≤ a.size ∧ x = .int .i64 (i : Int) ∧ r = .string t ∧ Hid (canonB t.data.toList = true ∧ dval t.data.toList = dval (a.data.toList.take i) % dval b.data.toList) ∧ Hid (QD l (dval (a.data.toList.take i) / dval b.data.toList)) ∧ l.length ≤ i ∧ t.size ≤ 2000 ∧ wr.ownsRow w.heap.size 5 1 v l.length (Lib.byteCells l) ∧ Below w.heap.size w wr)
  case atStart => exact ⟨0, ⟨#[48]⟩, [], rfl, by omega, rfl, rfl, ⟨by decide, by simp [dval, dv]⟩, .inl ⟨rfl, by simp [dval]⟩, by simp, by decide, World.ownsRow_nil _ _ _ _, Below.refl _ _⟩
  case round =>
    obtain ⟨i, t, l, rfl, hia, rfl, rfl, HT, HQ, hli, hts, hown, hW⟩ := hrel
    obtain ⟨o, cap, rfl⟩ := own_form8 hown
    obtain ⟨ln, hln⟩ : ∃ ln, ln = l.length := ⟨_, rfl⟩
    rw [← hln] at hown ⊢
    have HLN := hideT hln
    have hln2 : ln ≤ i := by omega
    clear hln hli
    by_cases hlt : (i : Int) < (a.size : Int)
    · have hia' : i < a.size := by omega
      have HTB : Hid (dval (a.data.toList.take i) % dval b.data.toList < dval b.data.toList) := Nat.mod_lt _ (Nat.pos_of_ne_zero HB0.out)
      have HD10 : Hid (dv a[i] < 10) := dig_at a i hia' HA.out
      by_cases hz : t = ⟨#[48]⟩
      · have HR1 : Hid (canonB (a.extract i (i + 1)).data.toList = true ∧ dval (a.extract i (i + 1)).data.toList = 10 * (dval (a.data.toList.take i) % dval b.data.toList) + dv a[i]) := by
          have h0 : dval t.data.toList = 0 := by rw [hz]; decide
          unfold Hid
          rw [← HT.out.2, h0]
          exact ext_one a i hia' HA.out
        have hr1s : (a.extract i (i + 1)).size ≤ 2001 := by simp; omega
        subst hz
        go_wp2
        generalize a.extract i (i + 1) = r1 at HR1 hr1s ⊢
        go_loopg [7, 9] (dval r1.data.toList) (fun gh r n wq => ∃ (m : Nat) (s : ByteArray), Hid (gh = dval s.data.toList) ∧ r = .string s ∧ n = .int .i64 (m : Int) ∧ Hid (canonB s.data.toList = true ∧ dval s.data.toList + m * dval b.data.toList = dval r1.data.toList) ∧ s.size ≤ 2001 ∧ m < 10 ∧ wq.ownsRow w.heap.size 5 1 (.slice o ln cap) ln (Lib.byteCells l) ∧ Below w.heap.size w wq)
        case atStart => exact ⟨0, r1, rfl, rfl, rfl, ⟨HR1.out.1, by omega⟩, hr1s, by omega, hown, hW⟩
        case round =>
          obtain ⟨m, s, HG, rfl, rfl, HS, hss, hm, hownq, hWq⟩ := hrel
          clear hown hW
          have hc := cmp_sign (dval s.data.toList) (dval b.data.toList)
          have hm2 : (m : Int) < 10 := by omega
          by_cases hge : dval b.data.toList ≤ dval s.data.toList
          · have hc1 := hc.1 hge
            have HGE := hideT hge
            clear hc hge
            go_wp2_with fail
            refine (l1Compare_any s b _ (by unfold maxLen; omega) (by unfold maxLen; omega) HS.out.1 HB.out).mono ?_
            rintro e w' ⟨rfl, rfl⟩
            generalize cmpI (dval s.data.toList : Int) (dval b.data.toList : Int) = z at hc1 ⊢
            go_wp2_with fail
            refine (l1Sub_any s b _ (by omega) (by omega) HS.out.1 HB.out HGE.out).mono ?_
            rintro e w2 ⟨s2, rfl, hc2, hv2, hW2⟩
            have hB1 : 0 < dval b.data.toList := Nat.pos_of_ne_zero HB0.out
            have hlt2 : dval s2.data.toList < dval s.data.toList := by have := HGE.out; omega
            have hmul : (m + 1) * dval b.data.toList = m * dval b.data.toList + dval b.data.toList := Nat.succ_mul _ _
            have HS2 : Hid (canonB s2.data.toList = true ∧ dval s2.data.toList + (m + 1) * dval b.data.toList = dval r1.data.toList) := ⟨hc2, by have := HS.out.2; have := HGE.out; omega⟩
            have hm1 : m + 1 < 10 := div_bd HTB.out HD10.out HR1.out.2 HS2.out.2
            have hs2s : s2.size ≤ 2001 := by have := canon_le_size HS.out.1 hc2 (by omega); omega
            have HLT := hideT hlt2
            have hWs := hWq.size
            have hown2 := hownq.kept (below_grown hW2) (Classical.em _)
            have hW2' : Below w.heap.size w w2 := hWq.trans (hW2.mono hWs)
            clear hlt2 hmul hc2 hv2 hB1 hownq hWq hW2
            go_wp2
            go_roundg (dval s2.data.toList)
            case measure => rw [HG.out]; exact HLT.out
            case rel => exact ⟨m + 1, s2, rfl, rfl, by go_num, HS2, hs2s, hm1, hown2, hW2'⟩
          · have hc1 := hc.2 hge
            have HE := hideT (div_step (Q := dval (a.data.toList.take i) / dval b.data.toList) (s := dval s.data.toList) (n := m) rfl rfl HB0.out HR1.out.2 HS.out.2 (by omega))
            have HS' : Hid (canonB s.data.toList = true) := HS.out.1
            have hss2 : s.size ≤ 2000 := by have := canon_le_size HB.out HS.out.1 (by omega); omega
            have HST := hideT (take_val a i hia' HA.out)
            have hWs := hWq.size
            clear hc hge HS HG
            go_wp2_with fail
            refine (l1Compare_any s b _ (by unfold maxLen; omega) (by unfold maxLen; omega) HS'.out HB.out).mono ?_
            rintro e w' ⟨rfl, rfl⟩
            generalize cmpI (dval s.data.toList : Int) (dval b.data.toList : Int) = z at hc1 ⊢
            by_cases h1 : 0 < (ln : Int) ∨ 0 < (m : Int)
            · have hne : Hid (l ≠ [] ∨ m ≠ 0) := by
                unfold Hid
                rcases h1 with h | h
                · left; intro e; have := HLN.out; rw [e] at this; simp at this; omega
                · right; omega
              have HQ' := hideT (HQ.out.step hm hne.out)
              have hcell : Lib.byteCells (l ++ [UInt8.ofNat (48 + m)]) = Lib.byteCells l ++ [.int .u8 (48 + (m : Int))] := bc_snoc l m hm
              have HCELL := hideT hcell
              clear hcell hne
              by_cases h2 : 0 < (ln : Int)
              · clear h1
                go_wp2_with (first | (at_builtin; refine wpList_append_own _ rfl _ _ 22 rfl w.heap.size 5 i0 (.int .u8 0) 1 1 Tryz.underlying22 hi hz0 hz1 hz2 rfl (by decide) _ _ _ rfl (hownq.alloc _) ⟨w'.heap.size, 0, none⟩ 1 1 [.int .u8 (48 + (m : Int))] rfl rfl (cell_one_new _ _ _) (one_byte _) (by unfold maxLen; omega) (by omega) (by simp; omega) ?_; intro v' w1 hown' hgrow _))
                go_roundg (a.size - (i + 1))
                case measure => omega
                case rel =>
                  obtain ⟨e1, e2⟩ := HE.out
                  rw [← HST.out] at e1 e2
                  have HQ2 := HQ'.out
                  rw [e1] at HQ2
                  refine ⟨i + 1, s, l ++ [UInt8.ofNat (48 + m)], rfl, by omega, by go_num, rfl, ⟨HS'.out, e2⟩, HQ2, by rw [List.length_append, ← HLN.out]; first | (simp; done) | (simp; omega), hss2, ?_, ?_⟩
                  · rw [HCELL.out]
                    rw [List.length_append, ← HLN.out]; exact hown'
                  · refine Below.grown (hWq.alloc hWs _) hgrow (by simp; omega) ?_
                    intro k hk; exact own_ge hownq hk
              · have h3 : 0 < (m : Int) := by omega
                obtain rfl : ln = 0 := by omega
                clear h1
                go_wp2_with (first | (at_builtin; refine wpList_append_own _ rfl _ _ 22 rfl w.heap.size 5 i0 (.int .u8 0) 1 1 Tryz.underlying22 hi hz0 hz1 hz2 rfl (by decide) _ _ _ rfl (hownq.alloc _) ⟨w'.heap.size, 0, none⟩ 1 1 [.int .u8 (48 + (m : Int))] rfl rfl (cell_one_new _ _ _) (one_byte _) (by unfold maxLen; omega) (by omega) (by simp; omega) ?_; intro v' w1 hown' hgrow _))
                go_roundg (a.size - (i + 1))
                case measure => omega
                case rel =>
                  obtain ⟨e1, e2⟩ := HE.out
                  rw [← HST.out] at e1 e2
                  have HQ2 := HQ'.out
                  rw [e1] at HQ2
                  refine ⟨i + 1, s, l ++ [UInt8.ofNat (48 + m)], rfl, by omega, by go_num, rfl, ⟨HS'.out, e2⟩, HQ2, by rw [List.length_append, ← HLN.out]; first | (simp; done) | (simp; omega), hss2, ?_, ?_⟩
                  · rw [HCELL.out]
                    rw [List.length_append, ← HLN.out]; exact hown'
                  · refine Below.grown (hWq.alloc hWs _) hgrow (by simp; omega) ?_
                    intro k hk; exact own_ge hownq hk
            · obtain rfl : ln = 0 := by omega
              have h3 : ¬ 0 < (m : Int) := by omega
              have hm0 : m = 0 := by omega
              have hl0 : l = [] := by have := HLN.out; exact List.length_eq_zero_iff.1 (by omega)
              clear h1
              go_wp2
              go_roundg (a.size - (i + 1))
              case measure => omega
              case rel =>
                obtain ⟨e1, e2⟩ := HE.out
                rw [← HST.out] at e1 e2
                refine ⟨i + 1, s, l, rfl, by omega, by go_num, rfl, ⟨HS'.out, e2⟩, ?_, by rw [← HLN.out]; omega, hss2, by rw [← HLN.out]; exact hownq, hWq⟩
                subst hl0
                rcases HQ.out with ⟨_, h⟩ | ⟨h, _⟩
                · exact .inl ⟨rfl, by omega⟩
                · simp [canonB] at h
      · have hz' : (t.toList == [48]) = false := str_ne (fun h => hz (WideShapes.bytes_inj h))
        have HR1 : Hid (canonB (t ++ a.extract i (i + 1)).data.toList = true ∧ dval (t ++ a.extract i (i + 1)).data.toList = 10 * (dval (a.data.toList.take i) % dval b.data.toList) + dv a[i]) := by
          have h0 : dval t.data.toList ≠ 0 := fun e => hz (WideShapes.bytes_inj ((canon_zero HT.out.1).1 e))
          unfold Hid
          rw [← HT.out.2]
          exact app_one t a i hia' HA.out HT.out.1 h0
        have hr1s : (t ++ a.extract i (i + 1)).size ≤ 2001 := by simp; omega
        clear hz
        go_wp2
        generalize t ++ a.extract i (i + 1) = r1 at HR1 hr1s ⊢
        go_loopg [7, 9] (dval r1.data.toList) (fun gh r n wq => ∃ (m : Nat) (s : ByteArray), Hid (gh = dval s.data.toList) ∧ r = .string s ∧ n = .int .i64 (m : Int) ∧ Hid (canonB s.data.toList = true ∧ dval s.data.toList + m * dval b.data.toList = dval r1.data.toList) ∧ s.size ≤ 2001 ∧ m < 10 ∧ wq.ownsRow w.heap.size 5 1 (.slice o ln cap) ln (Lib.byteCells l) ∧ Below w.heap.size w wq)
        case atStart => exact ⟨0, r1, rfl, rfl, rfl, ⟨HR1.out.1, by omega⟩, hr1s, by omega, hown, hW⟩
        case round =>
          obtain ⟨m, s, HG, rfl, rfl, HS, hss, hm, hownq, hWq⟩ := hrel
          clear hown hW
          have hc := cmp_sign (dval s.data.toList) (dval b.data.toList)
          have hm2 : (m : Int) < 10 := by omega
          by_cases hge : dval b.data.toList ≤ dval s.data.toList
          · have hc1 := hc.1 hge
            have HGE := hideT hge
            clear hc hge
            go_wp2_with fail
            refine (l1Compare_any s b _ (by unfold maxLen; omega) (by unfold maxLen; omega) HS.out.1 HB.out).mono ?_
            rintro e w' ⟨rfl, rfl⟩
            generalize cmpI (dval s.data.toList : Int) (dval b.data.toList : Int) = z at hc1 ⊢
            go_wp2_with fail
            refine (l1Sub_any s b _ (by omega) (by omega) HS.out.1 HB.out HGE.out).mono ?_
            rintro e w2 ⟨s2, rfl, hc2, hv2, hW2⟩
            have hB1 : 0 < dval b.data.toList := Nat.pos_of_ne_zero HB0.out
            have hlt2 : dval s2.data.toList < dval s.data.toList := by have := HGE.out; omega
            have hmul : (m + 1) * dval b.data.toList = m * dval b.data.toList + dval b.data.toList := Nat.succ_mul _ _
            have HS2 : Hid (canonB s2.data.toList = true ∧ dval s2.data.toList + (m + 1) * dval b.data.toList = dval r1.data.toList) := ⟨hc2, by have := HS.out.2; have := HGE.out; omega⟩
            have hm1 : m + 1 < 10 := div_bd HTB.out HD10.out HR1.out.2 HS2.out.2
            have hs2s : s2.size ≤ 2001 := by have := canon_le_size HS.out.1 hc2 (by omega); omega
            have HLT := hideT hlt2
            have hWs := hWq.size
            have hown2 := hownq.kept (below_grown hW2) (Classical.em _)
            have hW2' : Below w.heap.size w w2 := hWq.trans (hW2.mono hWs)
            clear hlt2 hmul hc2 hv2 hB1 hownq hWq hW2
            go_wp2
            go_roundg (dval s2.data.toList)
            case measure => rw [HG.out]; exact HLT.out
            case rel => exact ⟨m + 1, s2, rfl, rfl, by go_num, HS2, hs2s, hm1, hown2, hW2'⟩
          · have hc1 := hc.2 hge
            have HE := hideT (div_step (Q := dval (a.data.toList.take i) / dval b.data.toList) (s := dval s.data.toList) (n := m) rfl rfl HB0.out HR1.out.2 HS.out.2 (by omega))
            have HS' : Hid (canonB s.data.toList = true) := HS.out.1
            have hss2 : s.size ≤ 2000 := by have := canon_le_size HB.out HS.out.1 (by omega); omega
            have HST := hideT (take_val a i hia' HA.out)
            have hWs := hWq.size
            clear hc hge HS HG
            go_wp2_with fail
            refine (l1Compare_any s b _ (by unfold maxLen; omega) (by unfold maxLen; omega) HS'.out HB.out).mono ?_
            rintro e w' ⟨rfl, rfl⟩
            generalize cmpI (dval s.data.toList : Int) (dval b.data.toList : Int) = z at hc1 ⊢
            by_cases h1 : 0 < (ln : Int) ∨ 0 < (m : Int)
            · have hne : Hid (l ≠ [] ∨ m ≠ 0) := by
                unfold Hid
                rcases h1 with h | h
                · left; intro e; have := HLN.out; rw [e] at this; simp at this; omega
                · right; omega
              have HQ' := hideT (HQ.out.step hm hne.out)
              have hcell : Lib.byteCells (l ++ [UInt8.ofNat (48 + m)]) = Lib.byteCells l ++ [.int .u8 (48 + (m : Int))] := bc_snoc l m hm
              have HCELL := hideT hcell
              clear hcell hne
              by_cases h2 : 0 < (ln : Int)
              · clear h1
                go_wp2_with (first | (at_builtin; refine wpList_append_own _ rfl _ _ 22 rfl w.heap.size 5 i0 (.int .u8 0) 1 1 Tryz.underlying22 hi hz0 hz1 hz2 rfl (by decide) _ _ _ rfl (hownq.alloc _) ⟨w'.heap.size, 0, none⟩ 1 1 [.int .u8 (48 + (m : Int))] rfl rfl (cell_one_new _ _ _) (one_byte _) (by unfold maxLen; omega) (by omega) (by simp; omega) ?_; intro v' w1 hown' hgrow _))
                go_roundg (a.size - (i + 1))
                case measure => omega
                case rel =>
                  obtain ⟨e1, e2⟩ := HE.out
                  rw [← HST.out] at e1 e2
                  have HQ2 := HQ'.out
                  rw [e1] at HQ2
                  refine ⟨i + 1, s, l ++ [UInt8.ofNat (48 + m)], rfl, by omega, by go_num, rfl, ⟨HS'.out, e2⟩, HQ2, by rw [List.length_append, ← HLN.out]; first | (simp; done) | (simp; omega), hss2, ?_, ?_⟩
                  · rw [HCELL.out]
                    rw [List.length_append, ← HLN.out]; exact hown'
                  · refine Below.grown (hWq.alloc hWs _) hgrow (by simp; omega) ?_
                    intro k hk; exact own_ge hownq hk
              · have h3 : 0 < (m : Int) := by omega
                obtain rfl : ln = 0 := by omega
                clear h1
                go_wp2_with (first | (at_builtin; refine wpList_append_own _ rfl _ _ 22 rfl w.heap.size 5 i0 (.int .u8 0) 1 1 Tryz.underlying22 hi hz0 hz1 hz2 rfl (by decide) _ _ _ rfl (hownq.alloc _) ⟨w'.heap.size, 0, none⟩ 1 1 [.int .u8 (48 + (m : Int))] rfl rfl (cell_one_new _ _ _) (one_byte _) (by unfold maxLen; omega) (by omega) (by simp; omega) ?_; intro v' w1 hown' hgrow _))
                go_roundg (a.size - (i + 1))
                case measure => omega
                case rel =>
                  obtain ⟨e1, e2⟩ := HE.out
                  rw [← HST.out] at e1 e2
                  have HQ2 := HQ'.out
                  rw [e1] at HQ2
                  refine ⟨i + 1, s, l ++ [UInt8.ofNat (48 + m)], rfl, by omega, by go_num, rfl, ⟨HS'.out, e2⟩, HQ2, by rw [List.length_append, ← HLN.out]; first | (simp; done) | (simp; omega), hss2, ?_, ?_⟩
                  · rw [HCELL.out]
                    rw [List.length_append, ← HLN.out]; exact hown'
                  · refine Below.grown (hWq.alloc hWs _) hgrow (by simp; omega) ?_
                    intro k hk; exact own_ge hownq hk
            · obtain rfl : ln = 0 := by omega
              have h3 : ¬ 0 < (m : Int) := by omega
              have hm0 : m = 0 := by omega
              have hl0 : l = [] := by have := HLN.out; exact List.length_eq_zero_iff.1 (by omega)
              clear h1
              go_wp2
              go_roundg (a.size - (i + 1))
              case measure => omega
              case rel =>
                obtain ⟨e1, e2⟩ := HE.out
                rw [← HST.out] at e1 e2
                refine ⟨i + 1, s, l, rfl, by omega, by go_num, rfl, ⟨HS'.out, e2⟩, ?_, by rw [← HLN.out]; omega, hss2, by rw [← HLN.out]; exact hownq, hWq⟩
                subst hl0
                rcases HQ.out with ⟨_, h⟩ | ⟨h, _⟩
                · exact .inl ⟨rfl, by omega⟩
                · simp [canonB] at h
    · have hi' : i = a.size := by omega
      have hfin : a.data.toList.take i = a.data.toList := by rw [hi', ← HL.out]; exact List.take_length
      rw [hfin] at HT HQ
      clear hi' hfin
      by_cases h0 : ln = 0
      · have hl0 : l = [] := List.length_eq_zero_iff.1 (by rw [← HLN.out]; exact h0)
        have hq0 : Hid (dval a.data.toList / dval b.data.toList = 0) := by
          unfold Hid
          rcases HQ.out with ⟨_, h⟩ | ⟨h, _⟩
          · exact h
          · rw [hl0] at h; simp [canonB] at h
        subst h0
        go_wp2
        go_ret2
        exact ⟨⟨#[48]⟩, t, rfl, by decide, by rw [hq0.out]; decide, HT.out.1, HT.out.2, hW⟩
      · have h0' : ((ln : Int) == 0) = false := by rw [beq_eq_false_iff_ne]; omega
        have hcv := own_conv hown (by rw [← HLN.out]) h0
        have hq1 : Hid (canonB l = true ∧ dval l = dval a.data.toList / dval b.data.toList) := by
          unfold Hid
          rcases HQ.out with ⟨h, _⟩ | ⟨h1, h2, _⟩
          · have := HLN.out; rw [h] at this; exact absurd this h0
          · exact ⟨h1, h2⟩
        go_wp2
        go_ret2
        exact ⟨⟨l.toArray⟩, t, rfl, by simpa using hq1.out.1, by simpa using hq1.out.2, HT.out.1, HT.out.2, hW⟩
end Go.Proofs.YtmfpnbmfcoahbaaGreatDoor

/-
  What spec.l1Gcd answers.
-/
namespace Go.Proofs.YtmfpnbmfcoahbaaGreatDoor
open Go.RowKit
set_option linter.unusedVariables false

set_option maxHeartbeats 1000000 in
theorem l1Gcd_any (a b : ByteArray) (w : World) (hsa : a.size ≤ 2000) (hsb : b.size ≤ 2000) (ha : canonB a.data.toList = true) (hb : canonB b.data.toList = true) :
    Calls Tryz.prog 90 #[.string a, .string b] w fun e w' => ∃ s : ByteArray, e = .returned (.string s) ∧ canonB s.data.toList = true ∧ dval s.data.toList = Nat.gcd (dval a.data.toList) (dval b.data.toList) ∧ Below w.heap.size w w' := by
  have HA := hideT ha
  have HB := hideT hb
  clear ha hb
  go_enter Tryz.func90, Tryz.ntmps90
  go_wp2
  go_loopg [0, 1] (dval b.data.toList) (fun g x y wr => ∃ (s t : ByteArray), Hid (g = dval t.data.toList) ∧ x = .string s ∧ y = .string t ∧ Hid (canonB s.data.toList = true ∧ canonB t.data.toList = true ∧ Nat.gcd (dval s.data.toList) (dval t.data.toList) = Nat.gcd (dval a.data.toList) (dval b.data.toList)) ∧ s.size ≤ 2000 ∧ t.size ≤ 2000 ∧ Below w.heap.size w wr)
  case atStart => exact ⟨a, b, rfl, rfl, rfl, ⟨HA.out, HB.out, rfl⟩, hsa, hsb, Below.refl _ _⟩
  case round =>
    obtain ⟨s, t, HG, rfl, rfl, HS, hss, hts, hW⟩ := hrel
    by_cases hz : t = ⟨#[48]⟩
    · have HE : Hid (dval s.data.toList = Nat.gcd (dval a.data.toList) (dval b.data.toList)) := by
        unfold Hid
        rw [← HS.out.2.2, hz]
        simp [dval, dv]
      subst hz
      go_wp2
      go_ret
      exact ⟨s, rfl, HS.out.1, HE.out, hW⟩
    · have hz' : (t.toList == [48]) = false := str_ne (fun h => hz (WideShapes.bytes_inj h))
      have HB0 : Hid (dval t.data.toList ≠ 0) := fun e => hz (WideShapes.bytes_inj ((canon_zero HS.out.2.1).1 e))
      clear hz
      go_wp2_with fail
      refine (l1Div_any s t wr hss hts HS.out.1 HS.out.2.1 HB0.out).mono ?_
      rintro e w2 ⟨q, r, rfl, c1, v1, c2, v2, hW2⟩
      have hlt : dval r.data.toList < dval t.data.toList := by rw [v2]; exact Nat.mod_lt _ (Nat.pos_of_ne_zero HB0.out)
      have hrs : r.size ≤ 2000 := by have := canon_le_size HS.out.2.1 c2 (by omega); omega
      have HS2 : Hid (canonB t.data.toList = true ∧ canonB r.data.toList = true ∧ Nat.gcd (dval t.data.toList) (dval r.data.toList) = Nat.gcd (dval a.data.toList) (dval b.data.toList)) := by
        refine ⟨HS.out.2.1, c2, ?_⟩
        rw [← HS.out.2.2, v2]
        exact (Nat.gcd_comm _ _).trans ((Nat.gcd_rec _ _).symm.trans (Nat.gcd_comm _ _))
      have HLT := hideT hlt
      have hW2' : Below w.heap.size w w2 := hW.trans (hW2.mono hW.size)
      clear c1 v1 c2 v2 hlt hW hW2
      go_wp2
      go_roundg (dval r.data.toList)
      case measure => rw [HG.out]; exact HLT.out
      case rel => exact ⟨t, r, rfl, rfl, rfl, HS2, hts, hrs, hW2'⟩

theorem gcd_lt {x y : Nat} (k : Nat) (hx : x < 10 ^ k) (hy : y < 10 ^ k) : Nat.gcd x y < 10 ^ k := by
  by_cases h : x = 0
  · subst h; rw [Nat.gcd_zero_left]; exact hy
  · exact Nat.lt_of_le_of_lt (Nat.gcd_le_left y (Nat.pos_of_ne_zero h)) hx

theorem lt_tells {s : ByteArray} {n : Nat} (hc : canonB s.data.toList = true) (hv : dval s.data.toList = n) (hn : n < 10 ^ 600) : Tells n (.returned (.tuple #[.string s, .bool true])) :=
  ⟨s, by rw [decide_eq_true hn], fun _ => ⟨hc, hv⟩, fun h => absurd hn h⟩

end Go.Proofs.YtmfpnbmfcoahbaaGreatDoor

/-
  What spec.l1OfRadix answers.
-/
namespace Go.Proofs.YtmfpnbmfcoahbaaGreatDoor
open Go.RowKit
set_option linter.unusedVariables false

theorem rval_lt (b : Nat) (l : List UInt8) (h : rdigs b l = true) : rval b l < b ^ l.length := by
  have key : ∀ (m : List UInt8) (n k : Nat), n < b ^ k → m.all (fun c => decide (dg c < b)) = true → m.foldl (fun n c => b * n + dg c) n < b ^ (k + m.length) := by
    intro m
    induction m with
    | nil => intro n k hn _; simpa using hn
    | cons c m ih =>
      intro n k hn hm
      rw [List.all_cons, Bool.and_eq_true] at hm
      have hc := of_decide_eq_true hm.1
      have h1 : b * n + dg c < b ^ (k + 1) := by
        rw [Nat.pow_succ, Nat.mul_comm (b ^ k) b]
        have : b * (n + 1) ≤ b * b ^ k := Nat.mul_le_mul_left b hn
        rw [Nat.mul_add] at this
        omega
      have := ih (b * n + dg c) (k + 1) h1 hm.2
      rw [List.foldl_cons, List.length_cons, show k + (m.length + 1) = k + 1 + m.length by omega]
      exact this
  have := key l 0 0 (by simp) h
  rw [Nat.zero_add] at this
  exact this

theorem few_gen {b n V t T : Nat} (hb : b ≤ 2 ^ 4) (ht : t ≤ T) (hV : V < b ^ t) (h : (10000 : Nat) ^ (n - 1) ≤ V) : 13 * (n - 1) < 4 * T := by
  have h1 : (2 : Nat) ^ (13 * (n - 1)) ≤ 10000 ^ (n - 1) := by
    rw [Nat.pow_mul]; exact Nat.pow_le_pow_left (by decide) _
  have h2 : b ^ t ≤ (2 ^ 4) ^ T := Nat.le_trans (Nat.pow_le_pow_left hb t) (Nat.pow_le_pow_right (by decide) ht)
  rw [← Nat.pow_mul] at h2
  have h3 : (2 : Nat) ^ (13 * (n - 1)) < 2 ^ (4 * T) := Nat.lt_of_le_of_lt (Nat.le_trans h1 h) (Nat.lt_of_lt_of_le hV h2)
  exact (Nat.pow_lt_pow_iff_right (by decide)).1 h3

/-- Few parts are enough for 2000 digits. -/
theorem few_parts {b n V t : Nat} (hb : b ≤ 16) (ht : t ≤ 2000) (hV : V < b ^ t) (h : (10000 : Int) ^ (n - 1) ≤ (V : Int)) : n ≤ 700 := by
  have e : ((10000 ^ (n - 1) : Nat) : Int) = (10000 : Int) ^ (n - 1) := by rw [Int.natCast_pow]; rfl
  have h1 : (10000 : Nat) ^ (n - 1) ≤ V := by rw [← e] at h; exact Int.ofNat_le.1 h
  have := few_gen (b := b) (by omega) ht hV h1
  omega

theorem one_own (w : World) (B : Nat) (x : Int) (hB : B ≤ w.heap.size) : (w.alloc (.cells #[.int .i64 x] 3)).ownsRow B 3 1 (.slice (some ⟨w.heap.size, 0, none⟩) 1 1) 1 (ints [x]) := by
  refine ⟨by simp [ints], .inr ⟨w.heap.size, 1, #[.int .i64 x], rfl, hB, heap_alloc_new _ _, by omega, by unfold maxLen; omega, rfl, by simp [ints]⟩⟩

/-- What l1OfRadix should answer. -/
def OfR (b : Nat) (s : ByteArray) (e : Ending) : Prop := ∃ t : ByteArray, e = .returned (.tuple #[.string t, .bool (decide (0 < s.size) && rdigs b s.data.toList)]) ∧ (rdigs b s.data.toList = true → canonB t.data.toList = true ∧ dval t.data.toList = rval b s.data.toList) ∧ (rdigs b s.data.toList = false → t = ⟨#[]⟩)

end Go.Proofs.YtmfpnbmfcoahbaaGreatDoor

/-
  What spec.l2Sum answers: whole numbers with their signs are added.
-/
namespace Go.Proofs.YtmfpnbmfcoahbaaGreatDoor
open Go.RowKit
set_option linter.unusedVariables false

theorem add_lt_pow2 (k : Nat) {a b : Nat} (ha : a < 10 ^ k) (hb : b < 10 ^ k) : a + b < 10 ^ (k + 1) := by
  rw [Nat.pow_succ]; omega
theorem sum_size (k : Nat) (hk : 1 ≤ k) {s a b : ByteArray} (hc : canonB s.data.toList = true) (ha : canonB a.data.toList = true) (hb : canonB b.data.toList = true) (hsa : a.size ≤ k) (hsb : b.size ≤ k) (hv : dval s.data.toList ≤ dval a.data.toList + dval b.data.toList) : s.size ≤ k + 1 := by
  have h1 := (canon_len_le ha k hk).1 (by simpa using hsa)
  have h2 := (canon_len_le hb k hk).1 (by simpa using hsb)
  have h3 := (canon_len_le hc (k + 1) (by omega)).2 (Nat.lt_of_le_of_lt hv (add_lt_pow2 k h1 h2))
  simpa using h3

/-- What l2Sum tells. -/
def SumsTo (g g' : Bool) (n m : Nat) (e : Ending) : Prop := ∃ (h : Bool) (s : ByteArray), e = .returned (.tuple #[.bool h, .string s]) ∧ canonB s.data.toList = true ∧ sg h (dval s.data.toList) = sg g n + sg g' m

set_option maxHeartbeats 400000 in
theorem l2Sum_same (g : Bool) (a b : ByteArray) (w : World) (hsa : a.size ≤ 4000) (hsb : b.size ≤ 4000) (ha : canonB a.data.toList = true) (hb : canonB b.data.toList = true) :
    Calls Tryz.prog 83 #[.bool g, .string a, .bool g, .string b] w fun e w' => SumsTo g g (dval a.data.toList) (dval b.data.toList) e ∧ Below w.heap.size w w' := by
  have HA := hideT ha
  have HB := hideT hb
  clear ha hb
  cases g with
  | true =>
    go_enter Tryz.func83, Tryz.ntmps83
    go_wp2_with fail
    refine (l1Add_any a b _ hsa hsb HA.out HB.out).mono ?_
    rintro e w1 ⟨s, rfl, hc, hv, hW1⟩
    have HV : Hid (SumsTo true true (dval a.data.toList) (dval b.data.toList) (.returned (.tuple #[.bool true, .string s]))) := ⟨true, s, rfl, hc, by simp only [sg, if_true, hv]; omega⟩
    clear hc hv
    go_wp2
    go_ret2
    exact ⟨HV.out, hW1⟩
  | false =>
    go_enter Tryz.func83, Tryz.ntmps83
    go_wp2_with fail
    refine (l1Add_any a b _ hsa hsb HA.out HB.out).mono ?_
    rintro e w1 ⟨s, rfl, hc, hv, hW1⟩
    have HV : Hid (SumsTo false false (dval a.data.toList) (dval b.data.toList) (.returned (.tuple #[.bool false, .string s]))) := ⟨false, s, rfl, hc, by simp only [sg, Bool.false_eq_true, if_false, hv]; omega⟩
    clear hc hv
    go_wp2
    go_ret2
    exact ⟨HV.out, hW1⟩

set_option maxHeartbeats 400000 in
theorem l2Sum_other (g : Bool) (a b : ByteArray) (w : World) (hsa : a.size ≤ 4000) (hsb : b.size ≤ 4000) (ha : canonB a.data.toList = true) (hb : canonB b.data.toList = true) :
    Calls Tryz.prog 83 #[.bool g, .string a, .bool (!g), .string b] w fun e w' => SumsTo g (!g) (dval a.data.toList) (dval b.data.toList) e ∧ Below w.heap.size w w' := by
  have HA := hideT ha
  have HB := hideT hb
  clear ha hb
  by_cases hle : dval b.data.toList ≤ dval a.data.toList
  · have HLE := hideT hle
    have hcm : ¬ cmpI (dval a.data.toList) (dval b.data.toList) < 0 := by unfold cmpI; split <;> (try split) <;> omega
    have hcp : 0 ≤ cmpI (dval a.data.toList) (dval b.data.toList) := by omega
    obtain ⟨c, hc⟩ : ∃ c, c = cmpI (dval a.data.toList) (dval b.data.toList) := ⟨_, rfl⟩
    rw [← hc] at hcm hcp
    have HC := hideT hc
    clear hle hc
    cases g with
    | true =>
      simp only [Bool.not_true]
      go_enter Tryz.func83, Tryz.ntmps83
      go_wp2_with fail
      refine (l1Compare_any a b _ (Nat.le_trans hsa (by decide)) (Nat.le_trans hsb (by decide)) HA.out HB.out).mono ?_
      rintro e w1 ⟨rfl, rfl⟩
      rw [← HC.out]
      go_wp2_with fail
      refine (l1Sub_any a b _ hsa hsb HA.out HB.out HLE.out).mono ?_
      rintro e w1 ⟨s, rfl, hc, hv, hW1⟩
      have HV : Hid (SumsTo true false (dval a.data.toList) (dval b.data.toList) (.returned (.tuple #[.bool true, .string s]))) := ⟨true, s, rfl, hc, by have := HLE.out; simp only [sg, if_true, Bool.false_eq_true, if_false, hv]; omega⟩
      clear hc hv
      go_wp2
      go_ret2
      exact ⟨HV.out, hW1⟩
    | false =>
      simp only [Bool.not_false]
      go_enter Tryz.func83, Tryz.ntmps83
      go_wp2_with fail
      refine (l1Compare_any a b _ (Nat.le_trans hsa (by decide)) (Nat.le_trans hsb (by decide)) HA.out HB.out).mono ?_
      rintro e w1 ⟨rfl, rfl⟩
      rw [← HC.out]
      go_wp2_with fail
      refine (l1Sub_any a b _ hsa hsb HA.out HB.out HLE.out).mono ?_
      rintro e w1 ⟨s, rfl, hc, hv, hW1⟩
      have HV : Hid (SumsTo false true (dval a.data.toList) (dval b.data.toList) (.returned (.tuple #[.bool false, .string s]))) := ⟨false, s, rfl, hc, by have := HLE.out; simp only [sg, if_true, Bool.false_eq_true, if_false, hv]; omega⟩
      clear hc hv
      go_wp2
      go_ret2
      exact ⟨HV.out, hW1⟩
  · have HLT := hideT (show dval a.data.toList ≤ dval b.data.toList by omega)
    have hcm : ¬ 0 ≤ cmpI (dval a.data.toList) (dval b.data.toList) := by rw [cmpI_lt (by omega)]; decide
    have hcp : cmpI (dval a.data.toList) (dval b.data.toList) < 0 := by omega
    obtain ⟨c, hc⟩ : ∃ c, c = cmpI (dval a.data.toList) (dval b.data.toList) := ⟨_, rfl⟩
    rw [← hc] at hcm hcp
    have HC := hideT hc
    clear hle hc
    cases g with
    | true =>
      simp only [Bool.not_true]
      go_enter Tryz.func83, Tryz.ntmps83
      go_wp2_with fail
      refine (l1Compare_any a b _ (Nat.le_trans hsa (by decide)) (Nat.le_trans hsb (by decide)) HA.out HB.out).mono ?_
      rintro e w1 ⟨rfl, rfl⟩
      rw [← HC.out]
      go_wp2_with fail
      refine (l1Sub_any b a _ hsb hsa HB.out HA.out HLT.out).mono ?_
      rintro e w1 ⟨s, rfl, hc, hv, hW1⟩
      have HV : Hid (SumsTo true false (dval a.data.toList) (dval b.data.toList) (.returned (.tuple #[.bool false, .string s]))) := ⟨false, s, rfl, hc, by have := HLT.out; simp only [sg, if_true, Bool.false_eq_true, if_false, hv]; omega⟩
      clear hc hv
      go_wp2
      go_ret2
      exact ⟨HV.out, hW1⟩
    | false =>
      simp only [Bool.not_false]
      go_enter Tryz.func83, Tryz.ntmps83
      go_wp2_with fail
      refine (l1Compare_any a b _ (Nat.le_trans hsa (by decide)) (Nat.le_trans hsb (by decide)) HA.out HB.out).mono ?_
      rintro e w1 ⟨rfl, rfl⟩
      rw [← HC.out]
      go_wp2_with fail
      refine (l1Sub_any b a _ hsb hsa HB.out HA.out HLT.out).mono ?_
      rintro e w1 ⟨s, rfl, hc, hv, hW1⟩
      have HV : Hid (SumsTo false true (dval a.data.toList) (dval b.data.toList) (.returned (.tuple #[.bool true, .string s]))) := ⟨true, s, rfl, hc, by have := HLT.out; simp only [sg, if_true, Bool.false_eq_true, if_false, hv]; omega⟩
      clear hc hv
      go_wp2
      go_ret2
      exact ⟨HV.out, hW1⟩

theorem l2Sum_any (g g' : Bool) (a b : ByteArray) (w : World) (hsa : a.size ≤ 4000) (hsb : b.size ≤ 4000) (ha : canonB a.data.toList = true) (hb : canonB b.data.toList = true) :
    Calls Tryz.prog 83 #[.bool g, .string a, .bool g', .string b] w fun e w' => SumsTo g g' (dval a.data.toList) (dval b.data.toList) e ∧ Below w.heap.size w w' := by
  cases g <;> cases g'
  · exact l2Sum_same false a b w hsa hsb ha hb
  · exact l2Sum_other false a b w hsa hsb ha hb
  · exact l2Sum_other true a b w hsa hsb ha hb
  · exact l2Sum_same true a b w hsa hsb ha hb
end Go.Proofs.YtmfpnbmfcoahbaaGreatDoor

/-
  What spec.l1ToRadix answers.
-/
namespace Go.Proofs.YtmfpnbmfcoahbaaGreatDoor
open Go.RowKit
set_option linter.unusedVariables false

/-- Where the division of the parts stands: those from t on are the quotient's, o is left of them. -/
structure DivB (p0 : List Int) (d : Int) (t : Nat) (o : Int) (p : List Int) : Prop where
  len : p.length = p0.length
  bd : ∀ i, 0 ≤ p.getD i 0 ∧ p.getD i 0 < 10000
  low : ∀ i, i < t → p.getD i 0 = p0.getD i 0
  r0 : 0 ≤ o
  r1 : o < d
  val : vb 10000 (p0.drop t) = d * vb 10000 (p.drop t) + o

theorem DivB.start {p : List Int} {d : Int} (h : ∀ x ∈ p, 0 ≤ x ∧ x < 10000) (hd : 0 < d) : DivB p d p.length 0 p :=
  ⟨rfl, fun i => getD_bd h i, fun _ _ => rfl, by omega, hd, by rw [List.drop_length]; simp [vb]⟩

theorem small4 {r x d : Int} (r0 : 0 ≤ r) (r1 : r < d) (x0 : 0 ≤ x) (x1 : x < 10000) : 0 ≤ (r * 10000 + x) / d ∧ (r * 10000 + x) / d < 10000 ∧ 0 ≤ (r * 10000 + x) % d ∧ (r * 10000 + x) % d < d := by
  refine ⟨Int.ediv_nonneg (by omega) (by omega), Int.ediv_lt_of_lt_mul (by omega) (by omega), Int.emod_nonneg _ (by omega), Int.emod_lt_of_pos _ (by omega)⟩

theorem DivB.step {p0 p : List Int} {d o : Int} {t : Nat} (h : DivB p0 d (t + 1) o p) (ht : t < p0.length) :
    DivB p0 d t ((o * 10000 + p.getD t 0) % d) (p.set t ((o * 10000 + p.getD t 0) / d)) ∧ vb 10000 ((p.set t ((o * 10000 + p.getD t 0) / d)).drop t) = (o * 10000 + p.getD t 0) / d + 10000 * vb 10000 (p.drop (t + 1)) := by
  have hb := small4 h.r0 h.r1 (h.bd t).1 (h.bd t).2
  have hlen := h.len
  have hd : (p.set t ((o * 10000 + p.getD t 0) / d)).drop (t + 1) = p.drop (t + 1) := by
    rw [List.drop_set_of_lt (by omega)]
  have hv : vb 10000 ((p.set t ((o * 10000 + p.getD t 0) / d)).drop t) = (o * 10000 + p.getD t 0) / d + 10000 * vb 10000 (p.drop (t + 1)) := by
    rw [drop_val4 (p.set t _) t (by simp; omega), hd, getDset _ _ _ _ (by omega), if_pos rfl]
  refine ⟨⟨by simp [h.len], fun i => ?_, fun i hi => ?_, hb.2.2.1, hb.2.2.2, ?_⟩, hv⟩
  · rw [getDset _ _ _ _ (by omega)]; split
    · exact ⟨hb.1, hb.2.1⟩
    · exact h.bd i
  · rw [getDset _ _ _ _ (by omega), if_neg (by omega)]; exact h.low i (by omega)
  · have e1 := h.val
    have e2 := h.low t (by omega)
    rw [hv, drop_val4 p0 t (by omega), e1, ← e2]
    have hx := Int.mul_ediv_add_emod (o * 10000 + p.getD t 0) d
    generalize vb 10000 (p.drop (t + 1)) = V at *
    generalize (o * 10000 + p.getD t 0) / d = X at *
    rw [Int.mul_add d X, ← Int.mul_assoc d 10000 V, Int.mul_comm d 10000, Int.mul_assoc]
    omega

theorem DivB.nonneg {p0 p : List Int} {d o : Int} {t : Nat} (h : DivB p0 d t o p) (k : Nat) : 0 ≤ vb 10000 (p.drop k) :=
  (vb_lt 10000 (by omega) (p.drop k) p.length (fun i => by rw [getD_drop]; exact (h.bd _).1) (fun i => by rw [getD_drop]; exact (h.bd _).2) (fun i hi => by
    rw [getD_drop]; simp [List.getD, List.getElem?_eq_none (show p.length ≤ k + i by omega)])).1

theorem DivB.end {n : Nat} {p0 p : List Int} {d o : Int} (h : DivB p0 d 0 o p) (hv0 : vb 10000 p0 = (n : Int)) (D : Nat) (hD : d = (D : Int)) : o = ((n % D : Nat) : Int) ∧ vb 10000 p = ((n / D : Nat) : Int) := by
  have hv := h.val
  simp only [List.drop_zero] at hv
  rw [hv0, hD] at hv
  have h0 := h.r0
  have h1 := h.r1
  have hb := h.nonneg 0
  rw [List.drop_zero] at hb
  obtain ⟨V, hV⟩ : ∃ V : Nat, vb 10000 p = (V : Int) := ⟨(vb 10000 p).toNat, by omega⟩
  obtain ⟨R, hR⟩ : ∃ R : Nat, o = (R : Int) := ⟨o.toNat, by omega⟩
  rw [hV, hR] at hv
  have hn : n = D * V + R := by exact_mod_cast hv
  have hRD : R < D := by omega
  have hDp : 0 < D := by omega
  have e1 : n / D = V := by rw [hn, Nat.mul_add_div hDp, Nat.div_eq_of_lt hRD]; omega
  have e2 : n % D = R := by rw [hn, Nat.mul_add_mod, Nat.mod_eq_of_lt hRD]
  exact ⟨by rw [e2, hR], by rw [e1, hV]⟩

theorem DivB.mem {p0 p : List Int} {d o : Int} {t : Nat} (h : DivB p0 d t o p) : ∀ x ∈ p, 0 ≤ x ∧ x < 10000 := fun x hx => by
  obtain ⟨i, hi, rfl⟩ := List.getElem_of_mem hx
  have := h.bd i
  simpa [List.getD, hi] using this

/-! ### Rows of bytes that are written -/
theorem own_set8 {w : World} {B g n cap : Nat} {l : List UInt8} (h : w.ownsRow B 5 1 (.slice (some ⟨g, 0, none⟩) n cap) n (Lib.byteCells l)) (j : Nat) (c : UInt8) :
    (w.setCell ⟨g, j, none⟩ (.int .u8 (c.toNat : Int))).ownsRow B 5 1 (.slice (some ⟨g, 0, none⟩) n cap) n (Lib.byteCells (l.set j c)) := by
  refine ⟨by have := h.1; simpa [Lib.byteCells] using this, ?_⟩
  rcases h.2 with ⟨e, _⟩ | ⟨g', cap', cur, e, hB, hg, h1, h2, h3, h4⟩
  · cases e
  · cases e
    refine .inr ⟨g, cap, _, rfl, hB, heap_setCell_same w g j cur 5 _ hg, h1, h2, by simpa using h3, ?_⟩
    rw [Array.toList_setIfInBounds, List.take_set, h4]
    simp [Lib.byteCells, List.map_set]
theorem own_cell8 {w : World} {B g n cap : Nat} {l : List UInt8} (h : w.ownsRow B 5 1 (.slice (some ⟨g, 0, none⟩) n cap) n (Lib.byteCells l)) (j : Nat) (hj : j < l.length) : w.cell? ⟨g, j, none⟩ = some (.int .u8 ((l.getD j 0).toNat : Int)) := by
  have := h.cells (g := g) rfl j (.int .u8 ((l.getD j 0).toNat : Int)) (by simp [Lib.byteCells, List.getD, List.getElem?_eq_getElem hj])
  have e : (⟨g, 0, none⟩ : Addr).add j = ⟨g, j, none⟩ := by unfold Addr.add; split <;> simp_all
  rw [e] at this; exact this
theorem own_form8p {w : World} {B n : Nat} {v : Value} {l : List UInt8} (h : w.ownsRow B 5 1 v n (Lib.byteCells l)) (hn : 0 < n) : ∃ g cap, v = .slice (some ⟨g, 0, none⟩) n cap ∧ B ≤ g ∧ g < w.heap.size ∧ n ≤ cap := by
  rcases h.2 with ⟨_, e⟩ | ⟨g, cap, cur, rfl, hB, hg, h1, h2, _⟩
  · omega
  · exact ⟨g, cap, rfl, hB, (Array.getElem?_eq_some_iff.1 hg).1, h1⟩
theorem own_fr8 {w : World} {B g n cap : Nat} {l : List UInt8} (h : w.ownsRow B 5 1 (.slice (some ⟨g, 0, none⟩) n cap) n (Lib.byteCells l)) (j : Nat) : w.frozen? ⟨g, j, none⟩ = false := by
  rcases h.2 with ⟨e, _⟩ | ⟨g', cap', cur, e, hB, hg, _⟩
  · cases e
  · cases e; exact frozen_of_row w g j cur 5 hg

/-- The first i and the last i bytes have changed places. -/
def revTo (L : List UInt8) : Nat → List UInt8
  | 0 => L
  | i + 1 => ((revTo L i).set i (L.getD (L.length - 1 - i) 0)).set (L.length - 1 - i) (L.getD i 0)

theorem revTo_len (L : List UInt8) (i : Nat) : (revTo L i).length = L.length := by
  induction i with
  | zero => rfl
  | succ i ih => simp [revTo, ih]
theorem getD_set8 (p : List UInt8) (j i : Nat) (v : UInt8) (h : j < p.length) : (p.set j v).getD i 0 = if i = j then v else p.getD i 0 := by
  simp only [List.getD, List.getElem?_set]
  by_cases e : j = i
  · subst e; simp [h]
  · rw [if_neg e, if_neg (fun h => e h.symm)]
theorem revTo_get (L : List UInt8) (i x : Nat) (hi : 2 * i ≤ L.length) (hx : x < L.length) : (revTo L i).getD x 0 = if x < i ∨ L.length - i ≤ x then L.getD (L.length - 1 - x) 0 else L.getD x 0 := by
  induction i with
  | zero => simp only [revTo]; rw [if_neg (by omega)]
  | succ i ih =>
    unfold revTo
    rw [getD_set8 _ _ _ _ (by simp [revTo_len]; omega), getD_set8 _ _ _ _ (by rw [revTo_len]; omega), ih (by omega)]
    by_cases e1 : x = L.length - 1 - i
    · rw [if_pos e1, if_pos (by omega)]; congr 1; omega
    · rw [if_neg e1]
      by_cases e2 : x = i
      · rw [if_pos e2, if_pos (by omega), e2]
      · rw [if_neg e2]
        by_cases e3 : x < i ∨ L.length - i ≤ x
        · rw [if_pos e3, if_pos (by omega)]
        · rw [if_neg e3, if_neg (by omega)]

theorem revTo_end (L : List UInt8) : revTo L (L.length / 2) = L.reverse := by
  apply List.ext_getElem
  · rw [revTo_len, List.length_reverse]
  · intro x h1 h2
    rw [revTo_len] at h1
    have h := revTo_get L (L.length / 2) x (by omega) h1
    have e : (revTo L (L.length / 2))[x]'(by rw [revTo_len]; exact h1) = (revTo L (L.length / 2)).getD x 0 := by simp [List.getD, revTo_len, h1]
    rw [e, h, List.getElem_reverse]
    split
    · simp [List.getD, show L.length - 1 - x < L.length by omega]
    · have : L.length - 1 - x = x := by omega
      simp [List.getD, h1, this]

end Go.Proofs.YtmfpnbmfcoahbaaGreatDoor

/-
  What spec.GcdNat answers.
-/
namespace Go.Proofs.YtmfpnbmfcoahbaaGreatDoor
open Go.RowKit
set_option linter.unusedVariables false

end Go.Proofs.YtmfpnbmfcoahbaaGreatDoor
