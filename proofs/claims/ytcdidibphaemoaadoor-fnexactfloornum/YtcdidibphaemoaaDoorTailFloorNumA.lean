/-
  The texts SpecSub, SpecDiv, SpecGcd, ImplAdd, ImplMake, SpecMake, SpecParts, Floor, one behind the other, as one.
-/
import Derived.Test.YtcdidibphaemoaaDoorAns
import Derived.Test.YtcdidibphaemoaaDoorMinus
import Derived.Test.YtcdidibphaemoaaDoorSpecText
import Derived.Test.YtcdidibphaemoaaDoorStr
import Derived.Test.YtcdidibphaemoaaDoorSpecAdd
import Derived.Test.YtcdidibphaemoaaDoorText
import Derived.Test.YtcdidibphaemoaaDoorReads
import Derived.Test.YtcdidibphaemoaaDoorTellNum
import Derived.Test.YtcdidibphaemoaaDoorCutNum
import Derived.Deep.CutBlock
import Derived.Deep.DeepCutAuto
import Derived.Test.YtcdidibphaemoaaDoorReadNum

/-
  What spec.l1Sub and spec.SubNat answer.
-/
namespace Go.Proofs.YtcdidibphaemoaaDoor
open Go.RowKit
set_option linter.unusedVariables false

theorem canon_le_size {a b : ByteArray} (ha : canonB a.data.toList = true) (hb : canonB b.data.toList = true) (h : dval b.data.toList ≤ dval a.data.toList) : b.size ≤ a.size := by
  have e1 : a.data.toList.length = a.size := by simp
  have e2 : b.data.toList.length = b.size := by simp
  by_cases hc : b.size ≤ a.size
  · exact hc
  · have := canon_len_lt ha hb (by omega); omega

set_option maxHeartbeats 1000000 in
set_option maxRecDepth 100000 in
theorem l1Sub_any (a b : ByteArray) (w : World) (hsa : a.size ≤ 4000) (hsb : b.size ≤ 4000) (ha : canonB a.data.toList = true) (hb : canonB b.data.toList = true) (hab : dval b.data.toList ≤ dval a.data.toList) :
    Calls Tryd.prog 89 #[.string a, .string b] w fun e w' => ∃ s : ByteArray, e = .returned (.string s) ∧ canonB s.data.toList = true ∧ dval s.data.toList = dval a.data.toList - dval b.data.toList ∧ Below w.heap.size w w' := by
  have HA : Hid (a.data.toList.all isDig = true) := canon_all ha
  have HB : Hid (b.data.toList.all isDig = true) := canon_all hb
  have hap : 0 < a.size := canon_sz ha
  have hbp : 0 < b.size := canon_sz hb
  have hge : (b.size + 3) / 4 ≤ (a.size + 3) / 4 := by
    have := canon_le_size ha hb hab; omega
  have HAB : Hid (dval b.data.toList ≤ dval a.data.toList) := hab
  clear ha hb hab
  go_enter Tryd.func89, Tryd.ntmps89
  go_wp2_with fail
  refine (l1Limbs_any a _ hsa HA.out).mono ?_
  rintro e w1 ⟨v1, l1, rfl, hown1, h11, h12, hbd1, hval1, hW1⟩
  have HV1 : Hid ((∀ x ∈ l1, 0 ≤ x ∧ x < 10000) ∧ vb 10000 l1 = (dval a.data.toList : Int)) := ⟨hbd1, hval1⟩
  clear hbd1 hval1
  go_wp2_with fail
  refine (l1Limbs_any b _ hsb HB.out).mono ?_
  rintro e w2 ⟨v2, l2, rfl, hown2, h21, h22, hbd2, hval2, hW2⟩
  have HV2 : Hid ((∀ x ∈ l2, 0 ≤ x ∧ x < 10000) ∧ vb 10000 l2 = (dval b.data.toList : Int)) := ⟨hbd2, hval2⟩
  obtain ⟨g1, c1, rfl, hg1, hg1s, hc1, hm1⟩ := own_form hown1 (by omega)
  obtain ⟨g2, c2, rfl, hg2, hg2s, hc2, hm2⟩ := own_form hown2 (by omega)
  have hown1' := hown1.kept (below_grown hW2) (by simp [Value.ownBlock])
  have hB2 : Below w.heap.size w w2 := hW1.trans (hW2.mono hW1.size)
  have hs1 := hW1.size
  have hs2 := hW2.size
  obtain ⟨n1, hn1⟩ : ∃ n1, n1 = l1.length := ⟨_, rfl⟩
  obtain ⟨n2, hn2⟩ : ∃ n2, n2 = l2.length := ⟨_, rfl⟩
  have HN : Hid (n1 = l1.length ∧ n2 = l2.length) := ⟨hn1, hn2⟩
  rw [← hn1] at hown1' h11 h12 hc1
  rw [← hn2] at hown2 h21 h22 hc2
  rw [← hn1, ← hn2]
  have hle : (n2 : Int) ≤ (n1 : Int) := by omega
  have hn1b : (n1 : Int) ≤ 1001 := by omega
  have hn2p : 0 < n2 := by omega
  unfold maxLen at hm1 hm2
  clear hown1 hW1 hW2 hbd2 hval2 hn1 hn2 h11 h12 h21 h22 hge
  go_wp2
  go_loopg [13] n2 (fun gh i wr => ∃ t : Nat, gh = n2 - t ∧ t ≤ n2 ∧ i = .int .i64 (t : Int) ∧ wr.ownsRow w.heap.size 3 1 (.slice (some ⟨g1, 0, none⟩) n1 c1) n1 (ints (subTo l1 l2 1 0 t)) ∧ wr.ownsRow w1.heap.size 3 1 (.slice (some ⟨g2, 0, none⟩) n2 c2) n2 (ints l2) ∧ Below w.heap.size w wr)
  case atStart => exact ⟨0, rfl, by omega, rfl, hown1', hown2, hB2⟩
  case round =>
    obtain ⟨t, rfl, ht, rfl, hX, hY, hW⟩ := hrel
    clear hown1' hown2 hB2
    obtain ⟨hn1, hn2⟩ := HN.out
    have hlx : (subTo l1 l2 1 0 t).length = n1 := by rw [subTo_len]; exact hn1.symm
    by_cases hlt : (t : Int) < (n2 : Int)
    · have cx := own_cell hX t (by omega)
      rw [show (subTo l1 l2 1 0 t).getD t 0 = (subTo l1 l2 1 0 t).getD (0 + t) 0 by rw [Nat.zero_add]] at cx
      have cy := own_cell hY t (by omega)
      have hfr := own_fr hX t
      obtain ⟨x, hx⟩ : ∃ x, x = (subTo l1 l2 1 0 t).getD (0 + t) 0 := ⟨_, rfl⟩
      obtain ⟨y, hy⟩ : ∃ y, y = l2.getD t 0 := ⟨_, rfl⟩
      have hxb : 0 ≤ x ∧ x < 10000 := by rw [hx, subTo_get _ _ _ _ _ _ (by omega), if_neg (by omega)]; exact limb_bd HV1.out.1 _
      have hyb : 0 ≤ y ∧ y < 10000 := by rw [hy]; exact limb_bd HV2.out.1 t
      obtain ⟨hx0, hx1⟩ := hxb
      obtain ⟨hy0, hy1⟩ := hyb
      rw [← hx] at cx
      rw [← hy] at cy
      have HX : Hid (x = (subTo l1 l2 1 0 t).getD (0 + t) 0 ∧ y = l2.getD t 0) := ⟨hx, hy⟩
      have hgne : g1 ≠ g2 := by omega
      have ht1 : (t : Int) < (n1 : Int) := by omega
      clear hx hy hn1 hn2 hlx
      go_wp2
      go_roundg (n2 - (t + 1))
      case measure => omega
      case rel =>
        obtain ⟨hx, hy⟩ := HX.out
        refine ⟨t + 1, rfl, by omega, by go_num, ?_, ?_, hW.setCell hg1 _⟩
        · have h1 := own_set hX t (x - y)
          show World.ownsRow _ _ _ _ _ _ (ints ((subTo l1 l2 1 0 t).set (0 + t) ((subTo l1 l2 1 0 t).getD (0 + t) 0 - 1 * l2.getD t 0)))
          rw [← hx, ← hy, Int.one_mul, Nat.zero_add]
          exact h1
        · exact hY.kept (row := some g1) ⟨rfl, rfl, rfl, by simp [World.setCell], fun k _ hk => Below.heap_setCell _ _ _ _ (fun e => hk (by rw [e]))⟩ (.inr (by simp [Value.ownBlock]; omega))
    · have htn : t = n2 := by omega
      subst htn
      have hlx' : (subTo l1 l2 1 0 t).length = n1 := hlx
      have hval : Hid (vb 10000 (subTo l1 l2 1 0 t) = ((dval a.data.toList - dval b.data.toList : Nat) : Int)) := by
        unfold Hid
        rw [subTo_val _ _ _ _ _ _ (by omega) (by omega), List.take_of_length_le (by omega), HV1.out.2, HV2.out.2]
        have := HAB.out
        simp; omega
      have hbd : Hid (∀ i, -1000000000000 ≤ (subTo l1 l2 1 0 t).getD i 0 ∧ (subTo l1 l2 1 0 t).getD i 0 ≤ 1000000000000) := fun i => by
        rw [subTo_get _ _ _ _ _ _ (by omega)]
        have := limb_bd HV1.out.1 i; have := limb_bd HV2.out.1 (i - 0)
        split <;> omega
      have HLX : Hid ((subTo l1 l2 1 0 t).length = n1) := hlx
      have hWs := hW.size
      clear hn1 hn2 hlx hlx'
      go_wp2_with fail
      refine (l1Carry_any w.heap.size _ (subTo l1 l2 1 0 t) wr (by rw [HLX.out]; exact hX) hWs (by rw [HLX.out]; omega) (by rw [HLX.out]; omega) hbd.out).mono ?_
      rintro e w3 ⟨v3, r, rfl, hown3, hbd3, hval3, hl3, hl4, hW3⟩
      have hv3 : vb 10000 r = ((dval a.data.toList - dval b.data.toList : Nat) : Int) := by rw [hval3 (by rw [hval.out]; omega), hval.out]
      have HV3 : Hid (vb 10000 r = ((dval a.data.toList - dval b.data.toList : Nat) : Int)) := hv3
      have hB3 : Below w.heap.size w w3 := hW.trans hW3
      have hW3s := hB3.size
      rw [HLX.out] at hl3 hl4
      clear hv3 hval3 hX hY hW hW3
      go_wp2_with fail
      refine (l1Text_any w.heap.size v3 r w3 hown3 (by omega) (by omega) hbd3).mono ?_
      rintro e w4 ⟨s, rfl, hsc, hsv, hW4⟩
      have HS : Hid (canonB s.data.toList = true ∧ (dval s.data.toList : Int) = vb 10000 r) := ⟨hsc, hsv⟩
      clear hsc hsv hbd3
      go_wp2
      go_ret
      obtain ⟨hsc, hsv⟩ := HS.out
      have := HV3.out
      exact ⟨s, rfl, hsc, by omega, hB3.trans (hW4.mono hW3s)⟩


/-- May b be taken from a? -/
def subOk (a b : ByteArray) : Bool := (goodB a.data.toList && goodB b.data.toList) && decide (dval b.data.toList ≤ dval a.data.toList)

end Go.Proofs.YtcdidibphaemoaaDoor

/-
  What spec.l1Div and spec.DivNat answer.
-/
namespace Go.Proofs.YtcdidibphaemoaaDoor
open Go.RowKit
set_option linter.unusedVariables false

/-- The digits of a quotient so far: none for 0. -/
def QD (l : List UInt8) (Q : Nat) : Prop := (l = [] ∧ Q = 0) ∨ (canonB l = true ∧ dval l = Q ∧ Q ≠ 0)

theorem QD.step {l : List UInt8} {Q n : Nat} (h : QD l Q) (hn : n < 10) (hc : l ≠ [] ∨ n ≠ 0) : QD (l ++ [UInt8.ofNat (48 + n)]) (10 * Q + n) := by
  obtain ⟨d1, d2⟩ := dig_ofNat n hn
  rcases h with ⟨rfl, rfl⟩ | ⟨h1, h2, h3⟩
  · have hn0 : n ≠ 0 := by rcases hc with h | h; exact absurd rfl h; exact h
    refine .inr ⟨?_, ?_, by omega⟩
    · simp only [List.nil_append, canonB, List.all_cons, List.all_nil, d1]; simp
    · rw [dval_snoc, d2]; simp [dval]
  · refine .inr ⟨canon_append h1 (by rw [h2]; exact h3) (by rw [List.all_cons, d1]; rfl), ?_, by omega⟩
    rw [dval_snoc, d2, h2]

theorem div_step {N B Q R d n s X : Nat} (hQ : Q = N / B) (hR : R = N % B) (hB : B ≠ 0) (hX : X = 10 * R + d) (hn : s + n * B = X) (hs : s < B) : 10 * Q + n = (10 * N + d) / B ∧ s = (10 * N + d) % B := by
  have h1 := Nat.div_add_mod N B
  rw [← hQ, ← hR] at h1
  have h2 : 10 * N + d = B * (10 * Q + n) + s := by
    rw [Nat.mul_add, Nat.mul_left_comm, Nat.mul_comm B n]; omega
  rw [h2, Nat.mul_add_div (by omega), Nat.div_eq_of_lt hs, Nat.mul_add_mod, Nat.mod_eq_of_lt hs]
  exact ⟨by omega, rfl⟩

theorem div_bd {R B d n s X : Nat} (hR : R < B) (hd : d < 10) (hX : X = 10 * R + d) (hn : s + n * B = X) : n < 10 := by
  by_cases h : n < 10
  · exact h
  · have := Nat.mul_le_mul_right B (show 10 ≤ n by omega)
    omega

theorem cmp_sign (x y : Nat) : (y ≤ x → 0 ≤ cmpI (x : Int) (y : Int)) ∧ (¬ y ≤ x → cmpI (x : Int) (y : Int) < 0) := by
  constructor
  · intro h; unfold cmpI; split
    · omega
    · split <;> omega
  · intro h; rw [cmpI_lt (by omega)]; omega

theorem own_form8 {w : World} {B e n : Nat} {v : Value} {xs : List Value} (h : w.ownsRow B e 1 v n xs) : ∃ o cap, v = .slice o n cap := by
  rcases h.2 with ⟨rfl, rfl⟩ | ⟨g, cap, cur, rfl, _⟩
  · exact ⟨none, 0, rfl⟩
  · exact ⟨_, _, rfl⟩

theorem own_conv {w : World} {B n : Nat} {v : Value} {l : List UInt8} (h : w.ownsRow B 5 1 v n (Lib.byteCells l)) (hn : n = l.length) (h0 : n ≠ 0) : (convert 87 9 v).run Tryd.prog w = .ok (.string ⟨l.toArray⟩) w := by
  subst hn
  rcases h.2 with ⟨_, h⟩ | ⟨g, cap, cur, rfl, hg, hh, hc, _, hsz, ht⟩
  · exact absurd h h0
  · refine run_convert_bytes_back (P := Tryd.prog) w 87 9 5 ⟨g, 0, none⟩ cap l Tryd.underlying87 Tryd.underlying5 Tryd.underlying9 (fun j hj => ?_)
    have e : (⟨g, 0, none⟩ : Addr).add j = ⟨g, j, none⟩ := by unfold Addr.add; split <;> simp_all
    rw [e, cell_of_row w g j _ _ _ hh]
    have h2 : (cur.toList.take (l.length * 1))[j]? = some (.int .u8 (l[j].toNat : Int)) := by
      rw [ht]; simp [Lib.byteCells, List.getElem?_eq_getElem hj]
    rw [List.getElem?_take_of_lt (by omega)] at h2
    simpa using h2

theorem dig_at (a : ByteArray) (i : Nat) (h : i < a.size) (ha : a.data.toList.all isDig = true) : dv a[i] < 10 :=
  dv_lt (List.all_eq_true.1 ha (a.data.toList[i]'(by simpa using h)) (List.getElem_mem _))

theorem ext_list (a : ByteArray) (i : Nat) (h : i < a.size) : (a.extract i (i + 1)).data.toList = [a[i]] := by
  have h' : i < a.data.toList.length := by simpa using h
  rw [ByteArray.data_extract, Array.toList_extract, List.extract_eq_take_drop, show i + 1 - i = 1 by omega, List.drop_eq_getElem_cons h']
  rfl

theorem ext_one (a : ByteArray) (i : Nat) (h : i < a.size) (ha : a.data.toList.all isDig = true) : canonB (a.extract i (i + 1)).data.toList = true ∧ dval (a.extract i (i + 1)).data.toList = 10 * 0 + dv a[i] := by
  have hd : isDig a[i] = true := List.all_eq_true.1 ha (a.data.toList[i]'(by simpa using h)) (List.getElem_mem _)
  rw [ext_list a i h]
  exact ⟨by simp [canonB, hd], by simp [dval]⟩

theorem app_one (t a : ByteArray) (i : Nat) (h : i < a.size) (ha : a.data.toList.all isDig = true) (ht : canonB t.data.toList = true) (h0 : dval t.data.toList ≠ 0) : canonB (t ++ a.extract i (i + 1)).data.toList = true ∧ dval (t ++ a.extract i (i + 1)).data.toList = 10 * dval t.data.toList + dv a[i] := by
  have hd : isDig a[i] = true := List.all_eq_true.1 ha (a.data.toList[i]'(by simpa using h)) (List.getElem_mem _)
  have e : (t ++ a.extract i (i + 1)).data.toList = t.data.toList ++ [a[i]] := by
    rw [ByteArray.data_append, Array.toList_append, ext_list a i h]
  rw [e, dval_snoc]
  exact ⟨canon_append ht h0 (by rw [List.all_cons, hd]; rfl), rfl⟩

theorem take_val (a : ByteArray) (i : Nat) (h : i < a.size) (ha : a.data.toList.all isDig = true) : dval (a.data.toList.take (i + 1)) = 10 * dval (a.data.toList.take i) + dv a[i] := by
  rw [take_snoc a i h, dval_snoc]

theorem bc_snoc (l : List UInt8) (m : Nat) (hm : m < 10) : Lib.byteCells (l ++ [UInt8.ofNat (48 + m)]) = Lib.byteCells l ++ [.int .u8 (48 + (m : Int))] := by
  have e : (UInt8.ofNat (48 + m)).toNat = 48 + m := by rw [UInt8.toNat_ofNat']; omega
  unfold Lib.byteCells
  rw [List.map_append]
  congr 1
  simp only [List.map_cons, List.map_nil, e]
  rfl

theorem one_byte (v : Int) : ∀ u ∈ [Value.int .u8 v], u.oneCell' = true := by
  intro u hu; simp at hu; subst hu; rfl

set_option maxHeartbeats 1000000 in
set_option maxRecDepth 100000 in
theorem l1Div_any (a b : ByteArray) (w : World) (hsa : a.size ≤ 2000) (hsb : b.size ≤ 2000) (ha : canonB a.data.toList = true) (hb : canonB b.data.toList = true) (hb0 : dval b.data.toList ≠ 0) :
    Calls Tryd.prog 51 #[.string a, .string b] w fun e w' => ∃ s t : ByteArray, e = .returned (.tuple #[.string s, .string t]) ∧ canonB s.data.toList = true ∧ dval s.data.toList = dval a.data.toList / dval b.data.toList ∧ canonB t.data.toList = true ∧ dval t.data.toList = dval a.data.toList % dval b.data.toList ∧ Below w.heap.size w w' := by
  obtain ⟨i0, hi, hz0, hz1, hz2⟩ := u8_info
  have HA := hideT (canon_all ha)
  have HB := hideT hb
  have HB0 := hideT hb0
  have HL : Hid (a.data.toList.length = a.size) := by unfold Hid; simp
  clear ha hb hb0
  go_enter Tryd.func51, Tryd.ntmps51
  go_wp2
  go_loopg [6, 7, 8] a.size (fun g v r x wr => ∃ (i : Nat) (t : ByteArray) (l : List UInt8), g = a.size - i ∧ i ≤ a.size ∧ x = .int .i64 (i : Int) ∧ r = .string t ∧ Hid (canonB t.data.toList = true ∧ dval t.data.toList = dval (a.data.toList.take i) % dval b.data.toList) ∧ Hid (QD l (dval (a.data.toList.take i) / dval b.data.toList)) ∧ l.length ≤ i ∧ t.size ≤ 2000 ∧ wr.ownsRow w.heap.size 5 1 v l.length (Lib.byteCells l) ∧ Below w.heap.size w wr)
  case atStart => exact ⟨0, ⟨#[48]⟩, [], rfl, by omega, rfl, rfl, ⟨by decide, by simp [dval, dv]⟩, .inl ⟨rfl, by simp [dval]⟩, by simp, by decide, World.ownsRow_nil _ _ _ _, Below.refl _ _⟩
  case round =>
    obtain ⟨i, t, l, rfl, hia, rfl, rfl, HT, HQ, hli, hts, hown, hW⟩ := hrel
    obtain ⟨o, cap, rfl⟩ := own_form8 hown
    obtain ⟨ln, hln⟩ : ∃ ln, ln = l.length := ⟨_, rfl⟩
    rw [← hln] at hown ⊢
    have HLN := hideT hln
    have hln2 : ln ≤ i := by omega
    clear hln hli
    by_cases hlt : (i : Int) < (a.size : Int)
    · have hia' : i < a.size := by omega
      have HTB : Hid (dval (a.data.toList.take i) % dval b.data.toList < dval b.data.toList) := Nat.mod_lt _ (Nat.pos_of_ne_zero HB0.out)
      have HD10 : Hid (dv a[i] < 10) := dig_at a i hia' HA.out
      by_cases hz : t = ⟨#[48]⟩
      · have HR1 : Hid (canonB (a.extract i (i + 1)).data.toList = true ∧ dval (a.extract i (i + 1)).data.toList = 10 * (dval (a.data.toList.take i) % dval b.data.toList) + dv a[i]) := by
          have h0 : dval t.data.toList = 0 := by rw [hz]; decide
          unfold Hid
          rw [← HT.out.2, h0]
          exact ext_one a i hia' HA.out
        have hr1s : (a.extract i (i + 1)).size ≤ 2001 := by simp; omega
        subst hz
        go_wp2
        generalize a.extract i (i + 1) = r1 at HR1 hr1s ⊢
        go_loopg [7, 9] (dval r1.data.toList) (fun gh r n wq => ∃ (m : Nat) (s : ByteArray), Hid (gh = dval s.data.toList) ∧ r = .string s ∧ n = .int .i64 (m : Int) ∧ Hid (canonB s.data.toList = true ∧ dval s.data.toList + m * dval b.data.toList = dval r1.data.toList) ∧ s.size ≤ 2001 ∧ m < 10 ∧ wq.ownsRow w.heap.size 5 1 (.slice o ln cap) ln (Lib.byteCells l) ∧ Below w.heap.size w wq)
        case atStart => exact ⟨0, r1, rfl, rfl, rfl, ⟨HR1.out.1, by omega⟩, hr1s, by omega, hown, hW⟩
        case round =>
          obtain ⟨m, s, HG, rfl, rfl, HS, hss, hm, hownq, hWq⟩ := hrel
          clear hown hW
          have hc := cmp_sign (dval s.data.toList) (dval b.data.toList)
          have hm2 : (m : Int) < 10 := by omega
          by_cases hge : dval b.data.toList ≤ dval s.data.toList
          · have hc1 := hc.1 hge
            have HGE := hideT hge
            clear hc hge
            go_wp2_with fail
            refine (l1Compare_any s b _ (by unfold maxLen; omega) (by unfold maxLen; omega) HS.out.1 HB.out).mono ?_
            rintro e w' ⟨rfl, rfl⟩
            generalize cmpI (dval s.data.toList : Int) (dval b.data.toList : Int) = z at hc1 ⊢
            go_wp2_with fail
            refine (l1Sub_any s b _ (by omega) (by omega) HS.out.1 HB.out HGE.out).mono ?_
            rintro e w2 ⟨s2, rfl, hc2, hv2, hW2⟩
            have hB1 : 0 < dval b.data.toList := Nat.pos_of_ne_zero HB0.out
            have hlt2 : dval s2.data.toList < dval s.data.toList := by have := HGE.out; omega
            have hmul : (m + 1) * dval b.data.toList = m * dval b.data.toList + dval b.data.toList := Nat.succ_mul _ _
            have HS2 : Hid (canonB s2.data.toList = true ∧ dval s2.data.toList + (m + 1) * dval b.data.toList = dval r1.data.toList) := ⟨hc2, by have := HS.out.2; have := HGE.out; omega⟩
            have hm1 : m + 1 < 10 := div_bd HTB.out HD10.out HR1.out.2 HS2.out.2
            have hs2s : s2.size ≤ 2001 := by have := canon_le_size HS.out.1 hc2 (by omega); omega
            have HLT := hideT hlt2
            have hWs := hWq.size
            have hown2 := hownq.kept (below_grown hW2) (Classical.em _)
            have hW2' : Below w.heap.size w w2 := hWq.trans (hW2.mono hWs)
            clear hlt2 hmul hc2 hv2 hB1 hownq hWq hW2
            go_wp2
            go_roundg (dval s2.data.toList)
            case measure => rw [HG.out]; exact HLT.out
            case rel => exact ⟨m + 1, s2, rfl, rfl, by go_num, HS2, hs2s, hm1, hown2, hW2'⟩
          · have hc1 := hc.2 hge
            have HE := hideT (div_step (Q := dval (a.data.toList.take i) / dval b.data.toList) (s := dval s.data.toList) (n := m) rfl rfl HB0.out HR1.out.2 HS.out.2 (by omega))
            have HS' : Hid (canonB s.data.toList = true) := HS.out.1
            have hss2 : s.size ≤ 2000 := by have := canon_le_size HB.out HS.out.1 (by omega); omega
            have HST := hideT (take_val a i hia' HA.out)
            have hWs := hWq.size
            clear hc hge HS HG
            go_wp2_with fail
            refine (l1Compare_any s b _ (by unfold maxLen; omega) (by unfold maxLen; omega) HS'.out HB.out).mono ?_
            rintro e w' ⟨rfl, rfl⟩
            generalize cmpI (dval s.data.toList : Int) (dval b.data.toList : Int) = z at hc1 ⊢
            by_cases h1 : 0 < (ln : Int) ∨ 0 < (m : Int)
            · have hne : Hid (l ≠ [] ∨ m ≠ 0) := by
                unfold Hid
                rcases h1 with h | h
                · left; intro e; have := HLN.out; rw [e] at this; simp at this; omega
                · right; omega
              have HQ' := hideT (HQ.out.step hm hne.out)
              have hcell : Lib.byteCells (l ++ [UInt8.ofNat (48 + m)]) = Lib.byteCells l ++ [.int .u8 (48 + (m : Int))] := bc_snoc l m hm
              have HCELL := hideT hcell
              clear hcell hne
              by_cases h2 : 0 < (ln : Int)
              · clear h1
                go_wp2_with (first | (at_builtin; refine wpList_append_own _ rfl _ _ 87 rfl w.heap.size 5 i0 (.int .u8 0) 1 1 Tryd.underlying87 hi hz0 hz1 hz2 rfl (by decide) _ _ _ rfl (hownq.alloc _) ⟨w'.heap.size, 0, none⟩ 1 1 [.int .u8 (48 + (m : Int))] rfl rfl (cell_one_new _ _ _) (one_byte _) (by unfold maxLen; omega) (by omega) (by simp; omega) ?_; intro v' w1 hown' hgrow _))
                go_roundg (a.size - (i + 1))
                case measure => omega
                case rel =>
                  obtain ⟨e1, e2⟩ := HE.out
                  rw [← HST.out] at e1 e2
                  have HQ2 := HQ'.out
                  rw [e1] at HQ2
                  refine ⟨i + 1, s, l ++ [UInt8.ofNat (48 + m)], rfl, by omega, by go_num, rfl, ⟨HS'.out, e2⟩, HQ2, by rw [List.length_append, ← HLN.out]; first | (simp; done) | (simp; omega), hss2, ?_, ?_⟩
                  · rw [HCELL.out]
                    rw [List.length_append, ← HLN.out]; exact hown'
                  · refine Below.grown (hWq.alloc hWs _) hgrow (by simp; omega) ?_
                    intro k hk; exact own_ge hownq hk
              · have h3 : 0 < (m : Int) := by omega
                obtain rfl : ln = 0 := by omega
                clear h1
                go_wp2_with (first | (at_builtin; refine wpList_append_own _ rfl _ _ 87 rfl w.heap.size 5 i0 (.int .u8 0) 1 1 Tryd.underlying87 hi hz0 hz1 hz2 rfl (by decide) _ _ _ rfl (hownq.alloc _) ⟨w'.heap.size, 0, none⟩ 1 1 [.int .u8 (48 + (m : Int))] rfl rfl (cell_one_new _ _ _) (one_byte _) (by unfold maxLen; omega) (by omega) (by simp; omega) ?_; intro v' w1 hown' hgrow _))
                go_roundg (a.size - (i + 1))
                case measure => omega
                case rel =>
                  obtain ⟨e1, e2⟩ := HE.out
                  rw [← HST.out] at e1 e2
                  have HQ2 := HQ'.out
                  rw [e1] at HQ2
                  refine ⟨i + 1, s, l ++ [UInt8.ofNat (48 + m)], rfl, by omega, by go_num, rfl, ⟨HS'.out, e2⟩, HQ2, by rw [List.length_append, ← HLN.out]; first | (simp; done) | (simp; omega), hss2, ?_, ?_⟩
                  · rw [HCELL.out]
                    rw [List.length_append, ← HLN.out]; exact hown'
                  · refine Below.grown (hWq.alloc hWs _) hgrow (by simp; omega) ?_
                    intro k hk; exact own_ge hownq hk
            · obtain rfl : ln = 0 := by omega
              have h3 : ¬ 0 < (m : Int) := by omega
              have hm0 : m = 0 := by omega
              have hl0 : l = [] := by have := HLN.out; exact List.length_eq_zero_iff.1 (by omega)
              clear h1
              go_wp2
              go_roundg (a.size - (i + 1))
              case measure => omega
              case rel =>
                obtain ⟨e1, e2⟩ := HE.out
                rw [← HST.out] at e1 e2
                refine ⟨i + 1, s, l, rfl, by omega, by go_num, rfl, ⟨HS'.out, e2⟩, ?_, by rw [← HLN.out]; omega, hss2, by rw [← HLN.out]; exact hownq, hWq⟩
                subst hl0
                rcases HQ.out with ⟨_, h⟩ | ⟨h, _⟩
                · exact .inl ⟨rfl, by omega⟩
                · simp [canonB] at h
      · have hz' : (t.toList == [48]) = false := str_ne (fun h => hz (WideShapes.bytes_inj h))
        have HR1 : Hid (canonB (t ++ a.extract i (i + 1)).data.toList = true ∧ dval (t ++ a.extract i (i + 1)).data.toList = 10 * (dval (a.data.toList.take i) % dval b.data.toList) + dv a[i]) := by
          have h0 : dval t.data.toList ≠ 0 := fun e => hz (WideShapes.bytes_inj ((canon_zero HT.out.1).1 e))
          unfold Hid
          rw [← HT.out.2]
          exact app_one t a i hia' HA.out HT.out.1 h0
        have hr1s : (t ++ a.extract i (i + 1)).size ≤ 2001 := by simp; omega
        clear hz
        go_wp2
        generalize t ++ a.extract i (i + 1) = r1 at HR1 hr1s ⊢
        go_loopg [7, 9] (dval r1.data.toList) (fun gh r n wq => ∃ (m : Nat) (s : ByteArray), Hid (gh = dval s.data.toList) ∧ r = .string s ∧ n = .int .i64 (m : Int) ∧ Hid (canonB s.data.toList = true ∧ dval s.data.toList + m * dval b.data.toList = dval r1.data.toList) ∧ s.size ≤ 2001 ∧ m < 10 ∧ wq.ownsRow w.heap.size 5 1 (.slice o ln cap) ln (Lib.byteCells l) ∧ Below w.heap.size w wq)
        case atStart => exact ⟨0, r1, rfl, rfl, rfl, ⟨HR1.out.1, by omega⟩, hr1s, by omega, hown, hW⟩
        case round =>
          obtain ⟨m, s, HG, rfl, rfl, HS, hss, hm, hownq, hWq⟩ := hrel
          clear hown hW
          have hc := cmp_sign (dval s.data.toList) (dval b.data.toList)
          have hm2 : (m : Int) < 10 := by omega
          by_cases hge : dval b.data.toList ≤ dval s.data.toList
          · have hc1 := hc.1 hge
            have HGE := hideT hge
            clear hc hge
            go_wp2_with fail
            refine (l1Compare_any s b _ (by unfold maxLen; omega) (by unfold maxLen; omega) HS.out.1 HB.out).mono ?_
            rintro e w' ⟨rfl, rfl⟩
            generalize cmpI (dval s.data.toList : Int) (dval b.data.toList : Int) = z at hc1 ⊢
            go_wp2_with fail
            refine (l1Sub_any s b _ (by omega) (by omega) HS.out.1 HB.out HGE.out).mono ?_
            rintro e w2 ⟨s2, rfl, hc2, hv2, hW2⟩
            have hB1 : 0 < dval b.data.toList := Nat.pos_of_ne_zero HB0.out
            have hlt2 : dval s2.data.toList < dval s.data.toList := by have := HGE.out; omega
            have hmul : (m + 1) * dval b.data.toList = m * dval b.data.toList + dval b.data.toList := Nat.succ_mul _ _
            have HS2 : Hid (canonB s2.data.toList = true ∧ dval s2.data.toList + (m + 1) * dval b.data.toList = dval r1.data.toList) := ⟨hc2, by have := HS.out.2; have := HGE.out; omega⟩
            have hm1 : m + 1 < 10 := div_bd HTB.out HD10.out HR1.out.2 HS2.out.2
            have hs2s : s2.size ≤ 2001 := by have := canon_le_size HS.out.1 hc2 (by omega); omega
            have HLT := hideT hlt2
            have hWs := hWq.size
            have hown2 := hownq.kept (below_grown hW2) (Classical.em _)
            have hW2' : Below w.heap.size w w2 := hWq.trans (hW2.mono hWs)
            clear hlt2 hmul hc2 hv2 hB1 hownq hWq hW2
            go_wp2
            go_roundg (dval s2.data.toList)
            case measure => rw [HG.out]; exact HLT.out
            case rel => exact ⟨m + 1, s2, rfl, rfl, by go_num, HS2, hs2s, hm1, hown2, hW2'⟩
          · have hc1 := hc.2 hge
            have HE := hideT (div_step (Q := dval (a.data.toList.take i) / dval b.data.toList) (s := dval s.data.toList) (n := m) rfl rfl HB0.out HR1.out.2 HS.out.2 (by omega))
            have HS' : Hid (canonB s.data.toList = true) := HS.out.1
            have hss2 : s.size ≤ 2000 := by have := canon_le_size HB.out HS.out.1 (by omega); omega
            have HST := hideT (take_val a i hia' HA.out)
            have hWs := hWq.size
            clear hc hge HS HG
            go_wp2_with fail
            refine (l1Compare_any s b _ (by unfold maxLen; omega) (by unfold maxLen; omega) HS'.out HB.out).mono ?_
            rintro e w' ⟨rfl, rfl⟩
            generalize cmpI (dval s.data.toList : Int) (dval b.data.toList : Int) = z at hc1 ⊢
            by_cases h1 : 0 < (ln : Int) ∨ 0 < (m : Int)
            · have hne : Hid (l ≠ [] ∨ m ≠ 0) := by
                unfold Hid
                rcases h1 with h | h
                · left; intro e; have := HLN.out; rw [e] at this; simp at this; omega
                · right; omega
              have HQ' := hideT (HQ.out.step hm hne.out)
              have hcell : Lib.byteCells (l ++ [UInt8.ofNat (48 + m)]) = Lib.byteCells l ++ [.int .u8 (48 + (m : Int))] := bc_snoc l m hm
              have HCELL := hideT hcell
              clear hcell hne
              by_cases h2 : 0 < (ln : Int)
              · clear h1
                go_wp2_with (first | (at_builtin; refine wpList_append_own _ rfl _ _ 87 rfl w.heap.size 5 i0 (.int .u8 0) 1 1 Tryd.underlying87 hi hz0 hz1 hz2 rfl (by decide) _ _ _ rfl (hownq.alloc _) ⟨w'.heap.size, 0, none⟩ 1 1 [.int .u8 (48 + (m : Int))] rfl rfl (cell_one_new _ _ _) (one_byte _) (by unfold maxLen; omega) (by omega) (by simp; omega) ?_; intro v' w1 hown' hgrow _))
                go_roundg (a.size - (i + 1))
                case measure => omega
                case rel =>
                  obtain ⟨e1, e2⟩ := HE.out
                  rw [← HST.out] at e1 e2
                  have HQ2 := HQ'.out
                  rw [e1] at HQ2
                  refine ⟨i + 1, s, l ++ [UInt8.ofNat (48 + m)], rfl, by omega, by go_num, rfl, ⟨HS'.out, e2⟩, HQ2, by rw [List.length_append, ← HLN.out]; first | (simp; done) | (simp; omega), hss2, ?_, ?_⟩
                  · rw [HCELL.out]
                    rw [List.length_append, ← HLN.out]; exact hown'
                  · refine Below.grown (hWq.alloc hWs _) hgrow (by simp; omega) ?_
                    intro k hk; exact own_ge hownq hk
              · have h3 : 0 < (m : Int) := by omega
                obtain rfl : ln = 0 := by omega
                clear h1
                go_wp2_with (first | (at_builtin; refine wpList_append_own _ rfl _ _ 87 rfl w.heap.size 5 i0 (.int .u8 0) 1 1 Tryd.underlying87 hi hz0 hz1 hz2 rfl (by decide) _ _ _ rfl (hownq.alloc _) ⟨w'.heap.size, 0, none⟩ 1 1 [.int .u8 (48 + (m : Int))] rfl rfl (cell_one_new _ _ _) (one_byte _) (by unfold maxLen; omega) (by omega) (by simp; omega) ?_; intro v' w1 hown' hgrow _))
                go_roundg (a.size - (i + 1))
                case measure => omega
                case rel =>
                  obtain ⟨e1, e2⟩ := HE.out
                  rw [← HST.out] at e1 e2
                  have HQ2 := HQ'.out
                  rw [e1] at HQ2
                  refine ⟨i + 1, s, l ++ [UInt8.ofNat (48 + m)], rfl, by omega, by go_num, rfl, ⟨HS'.out, e2⟩, HQ2, by rw [List.length_append, ← HLN.out]; first | (simp; done) | (simp; omega), hss2, ?_, ?_⟩
                  · rw [HCELL.out]
                    rw [List.length_append, ← HLN.out]; exact hown'
                  · refine Below.grown (hWq.alloc hWs _) hgrow (by simp; omega) ?_
                    intro k hk; exact own_ge hownq hk
            · obtain rfl : ln = 0 := by omega
              have h3 : ¬ 0 < (m : Int) := by omega
              have hm0 : m = 0 := by omega
              have hl0 : l = [] := by have := HLN.out; exact List.length_eq_zero_iff.1 (by omega)
              clear h1
              go_wp2
              go_roundg (a.size - (i + 1))
              case measure => omega
              case rel =>
                obtain ⟨e1, e2⟩ := HE.out
                rw [← HST.out] at e1 e2
                refine ⟨i + 1, s, l, rfl, by omega, by go_num, rfl, ⟨HS'.out, e2⟩, ?_, by rw [← HLN.out]; omega, hss2, by rw [← HLN.out]; exact hownq, hWq⟩
                subst hl0
                rcases HQ.out with ⟨_, h⟩ | ⟨h, _⟩
                · exact .inl ⟨rfl, by omega⟩
                · simp [canonB] at h
    · have hi' : i = a.size := by omega
      have hfin : a.data.toList.take i = a.data.toList := by rw [hi', ← HL.out]; exact List.take_length
      rw [hfin] at HT HQ
      clear hi' hfin
      by_cases h0 : ln = 0
      · have hl0 : l = [] := List.length_eq_zero_iff.1 (by rw [← HLN.out]; exact h0)
        have hq0 : Hid (dval a.data.toList / dval b.data.toList = 0) := by
          unfold Hid
          rcases HQ.out with ⟨_, h⟩ | ⟨h, _⟩
          · exact h
          · rw [hl0] at h; simp [canonB] at h
        subst h0
        go_wp2
        go_ret2
        exact ⟨⟨#[48]⟩, t, rfl, by decide, by rw [hq0.out]; decide, HT.out.1, HT.out.2, hW⟩
      · have h0' : ((ln : Int) == 0) = false := by rw [beq_eq_false_iff_ne]; omega
        have hcv := own_conv hown (by rw [← HLN.out]) h0
        have hq1 : Hid (canonB l = true ∧ dval l = dval a.data.toList / dval b.data.toList) := by
          unfold Hid
          rcases HQ.out with ⟨h, _⟩ | ⟨h1, h2, _⟩
          · have := HLN.out; rw [h] at this; exact absurd this h0
          · exact ⟨h1, h2⟩
        go_wp2
        go_ret2
        exact ⟨⟨l.toArray⟩, t, rfl, by simpa using hq1.out.1, by simpa using hq1.out.2, HT.out.1, HT.out.2, hW⟩
end Go.Proofs.YtcdidibphaemoaaDoor

/-
  What spec.l1Gcd answers.
-/
namespace Go.Proofs.YtcdidibphaemoaaDoor
open Go.RowKit
set_option linter.unusedVariables false

set_option maxHeartbeats 1000000 in
theorem l1Gcd_any (a b : ByteArray) (w : World) (hsa : a.size ≤ 2000) (hsb : b.size ≤ 2000) (ha : canonB a.data.toList = true) (hb : canonB b.data.toList = true) :
    Calls Tryd.prog 34 #[.string a, .string b] w fun e w' => ∃ s : ByteArray, e = .returned (.string s) ∧ canonB s.data.toList = true ∧ dval s.data.toList = Nat.gcd (dval a.data.toList) (dval b.data.toList) ∧ Below w.heap.size w w' := by
  have HA := hideT ha
  have HB := hideT hb
  clear ha hb
  go_enter Tryd.func34, Tryd.ntmps34
  go_wp2
  go_loopg [0, 1] (dval b.data.toList) (fun g x y wr => ∃ (s t : ByteArray), Hid (g = dval t.data.toList) ∧ x = .string s ∧ y = .string t ∧ Hid (canonB s.data.toList = true ∧ canonB t.data.toList = true ∧ Nat.gcd (dval s.data.toList) (dval t.data.toList) = Nat.gcd (dval a.data.toList) (dval b.data.toList)) ∧ s.size ≤ 2000 ∧ t.size ≤ 2000 ∧ Below w.heap.size w wr)
  case atStart => exact ⟨a, b, rfl, rfl, rfl, ⟨HA.out, HB.out, rfl⟩, hsa, hsb, Below.refl _ _⟩
  case round =>
    obtain ⟨s, t, HG, rfl, rfl, HS, hss, hts, hW⟩ := hrel
    by_cases hz : t = ⟨#[48]⟩
    · have HE : Hid (dval s.data.toList = Nat.gcd (dval a.data.toList) (dval b.data.toList)) := by
        unfold Hid
        rw [← HS.out.2.2, hz]
        simp [dval, dv]
      subst hz
      go_wp2
      go_ret
      exact ⟨s, rfl, HS.out.1, HE.out, hW⟩
    · have hz' : (t.toList == [48]) = false := str_ne (fun h => hz (WideShapes.bytes_inj h))
      have HB0 : Hid (dval t.data.toList ≠ 0) := fun e => hz (WideShapes.bytes_inj ((canon_zero HS.out.2.1).1 e))
      clear hz
      go_wp2_with fail
      refine (l1Div_any s t wr hss hts HS.out.1 HS.out.2.1 HB0.out).mono ?_
      rintro e w2 ⟨q, r, rfl, c1, v1, c2, v2, hW2⟩
      have hlt : dval r.data.toList < dval t.data.toList := by rw [v2]; exact Nat.mod_lt _ (Nat.pos_of_ne_zero HB0.out)
      have hrs : r.size ≤ 2000 := by have := canon_le_size HS.out.2.1 c2 (by omega); omega
      have HS2 : Hid (canonB t.data.toList = true ∧ canonB r.data.toList = true ∧ Nat.gcd (dval t.data.toList) (dval r.data.toList) = Nat.gcd (dval a.data.toList) (dval b.data.toList)) := by
        refine ⟨HS.out.2.1, c2, ?_⟩
        rw [← HS.out.2.2, v2]
        exact (Nat.gcd_comm _ _).trans ((Nat.gcd_rec _ _).symm.trans (Nat.gcd_comm _ _))
      have HLT := hideT hlt
      have hW2' : Below w.heap.size w w2 := hW.trans (hW2.mono hW.size)
      clear c1 v1 c2 v2 hlt hW hW2
      go_wp2
      go_roundg (dval r.data.toList)
      case measure => rw [HG.out]; exact HLT.out
      case rel => exact ⟨t, r, rfl, rfl, rfl, HS2, hts, hrs, hW2'⟩

theorem gcd_lt {x y : Nat} (k : Nat) (hx : x < 10 ^ k) (hy : y < 10 ^ k) : Nat.gcd x y < 10 ^ k := by
  by_cases h : x = 0
  · subst h; rw [Nat.gcd_zero_left]; exact hy
  · exact Nat.lt_of_le_of_lt (Nat.gcd_le_left y (Nat.pos_of_ne_zero h)) hx

theorem lt_tells {s : ByteArray} {n : Nat} (hc : canonB s.data.toList = true) (hv : dval s.data.toList = n) (hn : n < 10 ^ 600) : Tells n (.returned (.tuple #[.string s, .bool true])) :=
  ⟨s, by rw [decide_eq_true hn], fun _ => ⟨hc, hv⟩, fun h => absurd hn h⟩

end Go.Proofs.YtcdidibphaemoaaDoor

/-
  What impl.AddNat answers.
-/
namespace Go.Proofs.YtcdidibphaemoaaDoor
open Go.RowKit
set_option linter.unusedVariables false

theorem Rep.small {n k : Nat} {p : List Int} (h : Rep n k p) (hn : n < 10 ^ 600) : k ≤ 100 := h.fits.2 hn

end Go.Proofs.YtcdidibphaemoaaDoor

/-
  What impl.MakeNum answers.
-/
namespace Go.Proofs.YtcdidibphaemoaaDoor
open Go.RowKit
set_option linter.unusedVariables false

/-- What MakeNum should answer. -/
def makeOk (a b : ByteArray) : Bool := (goodB a.data.toList && goodB b.data.toList) && decide (dval b.data.toList ≠ 0)
def MakeAns (g : Bool) (a b : ByteArray) (e : Ending) : Prop :=
  (makeOk a b = true ∧ TellsN (g && decide (dval a.data.toList ≠ 0)) (dval a.data.toList / Nat.gcd (dval a.data.toList) (dval b.data.toList)) (dval b.data.toList / Nat.gcd (dval a.data.toList) (dval b.data.toList)) e) ∨ (makeOk a b = false ∧ Mute e)
theorem MakeAns.same {g : Bool} {a b : ByteArray} {e e' : Ending} (h : MakeAns g a b e) (h' : MakeAns g a b e') : ∃ (s : ByteArray) (o : Bool), e = .returned (.tuple #[.string s, .bool o]) ∧ e' = .returned (.tuple #[.string s, .bool o]) := by
  rcases h with ⟨g1, h⟩ | ⟨g1, h⟩ <;> rcases h' with ⟨g2, h'⟩ | ⟨g2, h'⟩
  · exact h.same h'
  · rw [g1] at g2; cases g2
  · rw [g1] at g2; cases g2
  · exact h.same h'

set_option maxHeartbeats 1000000 in
set_option maxRecDepth 100000 in
theorem implMake_any (g : Bool) (a b : ByteArray) (w : World) (hsa : a.size ≤ maxLen) (hsb : b.size ≤ maxLen) (hT : Tab w.heap.size w) :
    Calls Tryd.prog 16 #[.bool g, .string a, .string b] w fun e w' => MakeAns g a b e ∧ Below w.heap.size w w' := by
  have hz := zero_nat.1
  have HT : Hid (Tab w.heap.size w) := hT
  clear hT
  go_enter Tryd.func16, Tryd.ntmps16
  go_wp2_with fail
  refine (readNats_any a b _ hsa hsb).mono ?_
  rintro e w1 ⟨k, m, p, q, oa, ob, rfl, hRa, hRb, hW1⟩
  have hp := hRa.len
  have hq := hRb.len
  have hs1 := hW1.size
  have A := (NatAt.new w1 0 zP).old (.cells (natC 0 zP) 36)
  have B := NatAt.new (w1.alloc (.cells (natC 0 zP) 36)) 0 zP
  have hB : Below w.heap.size w ((w1.alloc (.cells (natC 0 zP) 36)).alloc (.cells (natC 0 zP) 36)) := (hW1.alloc (by omega) _).alloc (by simp; omega) _
  simp only [World.size_alloc] at B
  have hok : oa = goodB a.data.toList := hRa.ok
  have hok' : ob = goodB b.data.toList := hRb.ok
  cases hg : (oa && ob) with
  | true =>
    have HG : Hid ((goodB a.data.toList && goodB b.data.toList) = true) := by unfold Hid; rw [← hok, ← hok']; exact hg
    have hga : goodB a.data.toList = true := by have := HG.out; simp only [Bool.and_eq_true] at this; exact this.1
    have hgb : goodB b.data.toList = true := by have := HG.out; simp only [Bool.and_eq_true] at this; exact this.2
    have ra : Rep (dval a.data.toList) k p := hRa.rep hga
    have rb : Rep (dval b.data.toList) m q := hRb.rep hgb
    have hk := ra.small (good_lt hga)
    have hm := rb.small (good_lt hgb)
    have RA := hide (And.intro ra rb)
    clear hg hga hgb ra rb
    by_cases hm0 : m = 0
    · have HG2 : Hid (MakeAns g a b (.returned (.tuple #[.string ⟨#[]⟩, .bool false]))) := by
        refine .inr ⟨?_, rfl⟩
        unfold makeOk
        rw [HG.out, RA.out.2.zero_iff.1 hm0]; rfl
      have hm0' : ((m : Int) == 0) = true := by simp [hm0]
      subst hm0
      go_wp2_with (first | (refine store_nat rfl _ _ rfl rfl w1.heap.size k p rfl rfl 0 zP A zP_len hp ?_; intro w2 hN2 hg2 hs2) | (refine store_nat rfl _ _ rfl rfl (w1.heap.size + 1) _ q rfl rfl 0 zP (B.grown hg2 (by simp)) zP_len hq ?_; intro w3 hN3 hg3 hs3; have c0 := hN3.c0))
      go_ret2
      exact ⟨HG2.out, (hB.grown hg2 (by simp; omega) (by intro k hk; cases hk; omega)).grown hg3 (by rw [hs2]; simp; omega) (by intro k hk; cases hk; omega)⟩
    · have hm0' : ((m : Int) == 0) = false := by simp [hm0]
      have HG2 : Hid (makeOk a b = true) := by
        unfold Hid makeOk
        rw [HG.out]
        have h1 : dval b.data.toList ≠ 0 := fun e => hm0 (RA.out.2.zero_iff.2 e)
        simp [h1]
      have HS : Hid (decide (0 < k) = decide (dval a.data.toList ≠ 0)) := by
        unfold Hid
        have h := RA.out.1.zero_iff
        by_cases e : k = 0
        · rw [decide_eq_false (by omega), decide_eq_false (by have := h.1 e; omega)]
        · rw [decide_eq_true (by omega), decide_eq_true (show dval a.data.toList ≠ 0 from fun e' => e (h.2 e'))]
      go_wp2_with (first | (refine store_nat rfl _ _ rfl rfl w1.heap.size k p rfl rfl 0 zP A zP_len hp ?_; intro w2 hN2 hg2 hs2) | (refine store_nat rfl _ _ rfl rfl (w1.heap.size + 1) m q rfl rfl 0 zP (B.grown hg2 (by simp)) zP_len hq ?_; intro w3 hN3 hg3 hs3; have c0 := hN3.c0) | (refine load_nat rfl _ rfl w1.heap.size rfl k p (hN2.grown hg3 (by simp)) hp ?_) | (refine load_nat rfl _ rfl (w1.heap.size + 1) rfl m q hN3 hq ?_))
      have hs3' : w3.heap.size = w1.heap.size + 1 + 1 := by rw [hs3, hs2]; simp
      have hN23 := hN2.grown hg3 (by simp)
      have hB3 : Below w.heap.size w w3 := (hB.grown hg2 (by simp; omega) (by intro k hk; cases hk; omega)).grown hg3 (by rw [hs2]; simp; omega) (by intro k hk; cases hk; omega)
      clear A B hB hN2 hg2 hs2 hg3 hs3 c0
      refine held_begin (fun w' => NatAt w' w1.heap.size k p ∧ NatAt w' (w1.heap.size + 1) m q) (by kernel_rfl) ?_
      have hS : NatAt w3.drew w1.heap.size k p ∧ NatAt w3.drew (w1.heap.size + 1) m q := ⟨hN23, hN3⟩
      refine held_val 0 (some 25) rfl rfl (by kernel_rfl) (by kernel_rfl) (by kernel_rfl) noPanic_put rfl (.bool g) (fun _ => rfl) hS ?_
      simp only [Act.put, List.setIfInBounds_toArray, List.set_cons_zero, List.set_cons_succ]
      refine held_load 1 (some 26) rfl rfl (by kernel_rfl) (by kernel_rfl) (by kernel_rfl) noPanic_put rfl _ rfl w1.heap.size rfl k p (fun _ h => h.1) hp hS ?_
      simp only [Act.put, List.setIfInBounds_toArray, List.set_cons_zero, List.set_cons_succ]
      refine held_load 3 (some 28) rfl rfl (by kernel_rfl) (by kernel_rfl) (by kernel_rfl) noPanic_put rfl _ rfl (w1.heap.size + 1) rfl m q (fun _ h => h.2) hq hS ?_
      simp only [Act.put, List.setIfInBounds_toArray, List.set_cons_zero, List.set_cons_succ]
      refine held_call 2 (some 27) (by kernel_rfl) rfl rfl rfl 41 #[.bool g, .agg (natC k p)] (by go_simp) _ (wholeOf_any g k p w3.drew hp) ?_
      rintro e w4 ⟨rfl, hW4⟩
      have hW4 : Below w3.heap.size w3 w4 := ⟨hW4.os, hW4.tape, hW4.output, hW4.size, hW4.block⟩
      have hS4 : NatAt w4 w1.heap.size k p ∧ NatAt w4 (w1.heap.size + 1) m q := ⟨hN23.below hW4 (by omega), hN3.below hW4 (by omega)⟩
      have hB4 : Below w.heap.size w w4 := hB3.trans (hW4.mono hB3.size)
      refine ⟨_, rfl, hS4, ?_⟩
      simp only [Act.put, List.setIfInBounds_toArray, List.set_cons_zero, List.set_cons_succ]
      refine held_call 4 (some 29) (by kernel_rfl) rfl rfl rfl 40 #[.agg (wholeC (g && decide (0 < k)) k p), .agg (natC m q)] (by go_simp) _ (fraction_any (g && decide (0 < k)) w4 RA.out.1 RA.out.2 (by omega) (by omega) (by omega)) ?_
      rintro e w5 ⟨i, l, r, s, rfl, hR1, hR2, hW5⟩
      have hS5 : NatAt w5 w1.heap.size k p ∧ NatAt w5 (w1.heap.size + 1) m q := ⟨hS4.1.below hW5 (by have := hW4.size; omega), hS4.2.below hW5 (by have := hW4.size; omega)⟩
      have hB5 : Below w.heap.size w w5 := hB4.trans (hW5.mono hB4.size)
      have HT5 : Hid (Tab w5.heap.size w5) := (HT.out.on hB5).up hB5.size
      refine ⟨_, rfl, hS5, ?_⟩
      simp only [Act.put, List.setIfInBounds_toArray, List.set_cons_zero, List.set_cons_succ]
      refine held_call 5 (some 30) (by kernel_rfl) rfl rfl rfl 39 #[.agg (numC (g && decide (0 < k)) i r l s)] (by go_simp) _ (tellNum_any (g && decide (0 < k)) w5 hR1 hR2 HT5.out) ?_
      rintro e w6 ⟨hTN, hW6⟩
      have hTN' := hTN
      rw [HS.out] at hTN'
      obtain ⟨t, rfl, _, _⟩ := hTN
      obtain ⟨bb, hbb⟩ : ∃ bb, bb = (decide (dval a.data.toList / Nat.gcd (dval a.data.toList) (dval b.data.toList) < 10 ^ 600) && decide (dval b.data.toList / Nat.gcd (dval a.data.toList) (dval b.data.toList) < 10 ^ 600)) := ⟨_, rfl⟩
      rw [← hbb] at hTN' ⊢
      have HA : Hid (MakeAns g a b (.returned (.tuple #[.string t, .bool bb]))) := .inl ⟨HG2.out, hTN'⟩
      clear hTN' hbb
      have hS6 : NatAt w6 w1.heap.size k p ∧ NatAt w6 (w1.heap.size + 1) m q := ⟨hS5.1.below hW6 (by have := hW4.size; have := hW5.size; omega), hS5.2.below hW6 (by have := hW4.size; have := hW5.size; omega)⟩
      have hB6 : Below w.heap.size w w6 := hB5.trans (hW6.mono hB5.size)
      refine ⟨_, rfl, hS6, ?_⟩
      simp only [Act.put, List.setIfInBounds_toArray, List.set_cons_zero, List.set_cons_succ]
      refine held_val 6 (some 31) rfl rfl (by kernel_rfl) (by kernel_rfl) (by kernel_rfl) noPanic_put rfl (.string t) (fun _ => rfl) hS6 ?_
      simp only [Act.put, List.setIfInBounds_toArray, List.set_cons_zero, List.set_cons_succ]
      refine held_val 7 (some 32) rfl rfl (by kernel_rfl) (by kernel_rfl) (by kernel_rfl) noPanic_put rfl (.bool bb) (fun _ => rfl) hS6 ?_
      simp only [Act.put, List.setIfInBounds_toArray, List.set_cons_zero, List.set_cons_succ]
      refine held_assign 8 (some 6) (by kernel_rfl) rfl rfl _ rfl rfl (.string t) rfl hS6 ?_
      simp only [Act.put, List.setIfInBounds_toArray, List.set_cons_zero, List.set_cons_succ]
      refine held_assign 9 (some 7) (by kernel_rfl) rfl rfl _ rfl rfl (.bool bb) rfl hS6 ?_
      simp only [Act.put, List.setIfInBounds_toArray, List.set_cons_zero, List.set_cons_succ]
      refine wpAnyH_done (by kernel_rfl) ?_ _
      refine NoPanic.normal ?_
      go_wp2
      go_ret2
      exact ⟨HA.out, hB6⟩
  | false =>
    have HG : Hid (MakeAns g a b (.returned (.tuple #[.string ⟨#[]⟩, .bool false]))) := .inr ⟨by unfold makeOk; rw [← hok, ← hok', hg]; rfl, rfl⟩
    clear hg
    go_wp2_with (first | (refine store_nat rfl _ _ rfl rfl w1.heap.size k p rfl rfl 0 zP A zP_len hp ?_; intro w2 hN2 hg2 hs2) | (refine store_nat rfl _ _ rfl rfl (w1.heap.size + 1) m q rfl rfl 0 zP (B.grown hg2 (by simp)) zP_len hq ?_; intro w3 hN3 hg3 hs3))
    go_ret2
    exact ⟨HG.out, (hB.grown hg2 (by simp; omega) (by intro k hk; cases hk; omega)).grown hg3 (by rw [hs2]; simp; omega) (by intro k hk; cases hk; omega)⟩
end Go.Proofs.YtcdidibphaemoaaDoor

/-
  What spec.l2Make and spec.MakeNum answer.
-/
namespace Go.Proofs.YtcdidibphaemoaaDoor
open Go.RowKit
set_option linter.unusedVariables false

theorem one_lt (k : Nat) (hk : k ≠ 0) : 1 < 10 ^ k := Nat.one_lt_pow hk (by decide)

theorem make_tells {g : Bool} {a b t u s : ByteArray} {G : Nat} (h0 : dval a.data.toList ≠ 0) (hC : canonB t.data.toList = true ∧ dval t.data.toList = dval a.data.toList / G ∧ canonB u.data.toList = true ∧ dval u.data.toList = dval b.data.toList / G) (h1 : t.size ≤ 600) (h2 : u.size ≤ 600)
    (h : s.data.toList = (if g then [45] else []) ++ t.data.toList ++ (if dval b.data.toList / G = 1 then [] else 47 :: u.data.toList)) : TellsN (g && decide (dval a.data.toList ≠ 0)) (dval a.data.toList / G) (dval b.data.toList / G) (.returned (.tuple #[.string s, .bool true])) := by
  rw [decide_eq_true h0, Bool.and_true]
  refine TellsN.yes ?_ ?_ ⟨t, u, InRad.dec hC.1 hC.2.1, InRad.dec hC.2.2.1 hC.2.2.2, h⟩
  · rw [← hC.2.1]; exact (canon_len_le hC.1 600 (by omega)).1 (by simpa using h1)
  · rw [← hC.2.2.2]; exact (canon_len_le hC.2.2.1 600 (by omega)).1 (by simpa using h2)

set_option maxHeartbeats 1000000 in
set_option maxRecDepth 100000 in
theorem l2Make_any (g : Bool) (a b : ByteArray) (w : World) (hsa : a.size ≤ 2000) (hsb : b.size ≤ 2000) (ha : canonB a.data.toList = true) (hb : canonB b.data.toList = true) (hb0 : dval b.data.toList ≠ 0) :
    Calls Tryd.prog 38 #[.bool g, .string a, .string b] w fun e w' => TellsN (g && decide (dval a.data.toList ≠ 0)) (dval a.data.toList / Nat.gcd (dval a.data.toList) (dval b.data.toList)) (dval b.data.toList / Nat.gcd (dval a.data.toList) (dval b.data.toList)) e ∧ Below w.heap.size w w' := by
  have HA := hideT ha
  have HB := hideT hb
  have HB0 := hideT hb0
  by_cases hz : a = ⟨#[48]⟩
  · have h0 : dval a.data.toList = 0 := by rw [hz]; decide
    have HN : Hid (TellsN (g && decide (dval a.data.toList ≠ 0)) (dval a.data.toList / Nat.gcd (dval a.data.toList) (dval b.data.toList)) (dval b.data.toList / Nat.gcd (dval a.data.toList) (dval b.data.toList)) (.returned (.tuple #[.string ⟨#[48]⟩, .bool true]))) := by
      unfold Hid
      rw [h0, Nat.gcd_zero_left, Nat.zero_div, Nat.div_self (Nat.pos_of_ne_zero hb0), decide_eq_false (by simp), Bool.and_false]
      refine TellsN.yes (Nat.lt_trans (by decide) (one_lt 600 (by decide))) (one_lt 600 (by decide)) ⟨⟨#[48]⟩, ⟨#[49]⟩, InRad.dec (by decide) (by decide), InRad.dec (by decide) (by decide), by simp⟩
    subst hz
    clear ha hb hb0 h0
    go_enter Tryd.func38, Tryd.ntmps38
    go_wp2
    go_ret2
    exact ⟨HN.out, Below.refl _ _⟩
  · have hz' : (a.toList == [48]) = false := str_ne (fun h => hz (WideShapes.bytes_inj h))
    have HT0 : Hid (dval a.data.toList ≠ 0) := fun e => hz (WideShapes.bytes_inj ((canon_zero HA.out).1 e))
    obtain ⟨G, hG⟩ : ∃ G, G = Nat.gcd (dval a.data.toList) (dval b.data.toList) := ⟨_, rfl⟩
    rw [← hG]
    have HG := hideT hG
    have HG0 : Hid (G ≠ 0) := by
      have := Nat.gcd_pos_of_pos_right (dval a.data.toList) (Nat.pos_of_ne_zero hb0)
      unfold Hid; omega
    clear hz ha hb hb0 hG
    go_enter Tryd.func38, Tryd.ntmps38
    go_wp2_with fail
    refine (l1Gcd_any a b w hsa hsb HA.out HB.out).mono ?_
    rintro e w1 ⟨c, rfl, hc, hv, hW⟩
    rw [← HG.out] at hv
    have HCC := hideT (And.intro hc hv)
    have hcs : c.size ≤ 2000 := by
      have hle : dval c.data.toList ≤ dval b.data.toList := by rw [hv, HG.out]; exact Nat.gcd_le_right _ (Nat.pos_of_ne_zero HB0.out)
      have := canon_le_size HB.out hc hle; omega
    clear hc hv
    by_cases hc1 : c.data.toList = [49]
    · have hc1' : (c.toList == [49]) = true := str_eq hc1
      have hG1 : G = 1 := by rw [← HCC.out.2]; exact (canon_one HCC.out.1).2 hc1
      clear hc1
      have HC : Hid (canonB a.data.toList = true ∧ dval a.data.toList = dval a.data.toList / G ∧ canonB b.data.toList = true ∧ dval b.data.toList = dval b.data.toList / G) := by
        unfold Hid; rw [hG1, Nat.div_one, Nat.div_one]; exact ⟨HA.out, rfl, HB.out, rfl⟩
      clear hG1
      by_cases hl1 : (600 : Int) < (a.size : Int)
      · have HN : Hid (TellsN (g && decide (dval a.data.toList ≠ 0)) (dval a.data.toList / G) (dval b.data.toList / G) (.returned (.tuple #[.string ⟨#[]⟩, .bool false]))) := TellsN.no (.inl (fun h => by
          rw [← HC.out.2.1] at h
          have := (canon_len_le HC.out.1 600 (by omega)).2 h
          simp at this; omega))
        go_wp2
        go_ret2
        exact ⟨HN.out, hW⟩
      · by_cases hl2 : (600 : Int) < (b.size : Int)
        · have HN : Hid (TellsN (g && decide (dval a.data.toList ≠ 0)) (dval a.data.toList / G) (dval b.data.toList / G) (.returned (.tuple #[.string ⟨#[]⟩, .bool false]))) := TellsN.no (.inr (fun h => by
            rw [← HC.out.2.2.2] at h
            have := (canon_len_le HC.out.2.2.1 600 (by omega)).2 h
            simp at this; omega))
          go_wp2
          go_ret2
          exact ⟨HN.out, hW⟩
        · have HY := fun (s : ByteArray) (h : s.data.toList = (if g then [45] else []) ++ a.data.toList ++ (if dval b.data.toList / G = 1 then [] else 47 :: b.data.toList)) => make_tells (s := s) (g := g) HT0.out HC.out (by omega) (by omega) h
          have HY' := hideT HY
          clear HY
          have hb1 : Hid (dval b.data.toList / G = 1 ↔ b.data.toList = [49]) := by unfold Hid; rw [← HC.out.2.2.2]; exact canon_one HC.out.2.2.1
          by_cases hu1 : b.data.toList = [49]
          · have hu1' : (b.toList == [49]) = true := str_eq hu1
            have HI : Hid (dval b.data.toList / G = 1) := hb1.out.2 hu1
            clear hu1
            cases g with
            | true =>
              go_wp2
              go_ret2
              exact ⟨HY'.out _ (by rw [if_pos HI.out]; simp [ByteArray.data_append]), hW⟩
            | false =>
              go_wp2
              go_ret2
              exact ⟨HY'.out _ (by rw [if_pos HI.out]; simp), hW⟩
          · have hu1' : (b.toList == [49]) = false := str_ne hu1
            have HI : Hid (¬ dval b.data.toList / G = 1) := fun e => hu1 (hb1.out.1 e)
            clear hu1
            cases g with
            | true =>
              go_wp2
              go_ret2
              exact ⟨HY'.out _ (by rw [if_neg HI.out]; simp [ByteArray.data_append]), hW⟩
            | false =>
              go_wp2
              go_ret2
              exact ⟨HY'.out _ (by rw [if_neg HI.out]; simp [ByteArray.data_append]), hW⟩
    · have hc1' : (c.toList == [49]) = false := str_ne hc1
      have hcz : Hid (dval c.data.toList ≠ 0) := by unfold Hid; rw [HCC.out.2]; exact HG0.out
      clear hc1
      go_wp2_with fail
      refine (l1Div_any a c w1 hsa hcs HA.out HCC.out.1 hcz.out).mono ?_
      rintro e w2 ⟨t, t', rfl, hc2, hv2, _, _, hW2⟩
      rw [HCC.out.2] at hv2
      have HC2 := hideT (And.intro hc2 hv2)
      have hts : t.size ≤ 2000 := by have := canon_le_size HA.out hc2 (by rw [hv2]; exact Nat.div_le_self _ _); omega
      have hW2' : Below w.heap.size w w2 := hW.trans (hW2.mono hW.size)
      clear hc2 hv2 hW hW2
      go_wp2_with fail
      refine (l1Div_any b c w2 hsb hcs HB.out HCC.out.1 hcz.out).mono ?_
      rintro e w3 ⟨u, u', rfl, hc3, hv3, _, _, hW3⟩
      rw [HCC.out.2] at hv3
      have hus : u.size ≤ 2000 := by have := canon_le_size HB.out hc3 (by rw [hv3]; exact Nat.div_le_self _ _); omega
      have HC : Hid (canonB t.data.toList = true ∧ dval t.data.toList = dval a.data.toList / G ∧ canonB u.data.toList = true ∧ dval u.data.toList = dval b.data.toList / G) := ⟨HC2.out.1, HC2.out.2, hc3, hv3⟩
      have hW : Below w.heap.size w w3 := hW2'.trans (hW3.mono hW2'.size)
      clear hc3 hv3 hW2' hW3
      by_cases hl1 : (600 : Int) < (t.size : Int)
      · have HN : Hid (TellsN (g && decide (dval a.data.toList ≠ 0)) (dval a.data.toList / G) (dval b.data.toList / G) (.returned (.tuple #[.string ⟨#[]⟩, .bool false]))) := TellsN.no (.inl (fun h => by
          rw [← HC.out.2.1] at h
          have := (canon_len_le HC.out.1 600 (by omega)).2 h
          simp at this; omega))
        go_wp2
        go_ret2
        exact ⟨HN.out, hW⟩
      · by_cases hl2 : (600 : Int) < (u.size : Int)
        · have HN : Hid (TellsN (g && decide (dval a.data.toList ≠ 0)) (dval a.data.toList / G) (dval b.data.toList / G) (.returned (.tuple #[.string ⟨#[]⟩, .bool false]))) := TellsN.no (.inr (fun h => by
            rw [← HC.out.2.2.2] at h
            have := (canon_len_le HC.out.2.2.1 600 (by omega)).2 h
            simp at this; omega))
          go_wp2
          go_ret2
          exact ⟨HN.out, hW⟩
        · have HY := fun (s : ByteArray) (h : s.data.toList = (if g then [45] else []) ++ t.data.toList ++ (if dval b.data.toList / G = 1 then [] else 47 :: u.data.toList)) => make_tells (s := s) (g := g) HT0.out HC.out (by omega) (by omega) h
          have HY' := hideT HY
          clear HY
          have hb1 : Hid (dval b.data.toList / G = 1 ↔ u.data.toList = [49]) := by unfold Hid; rw [← HC.out.2.2.2]; exact canon_one HC.out.2.2.1
          by_cases hu1 : u.data.toList = [49]
          · have hu1' : (u.toList == [49]) = true := str_eq hu1
            have HI : Hid (dval b.data.toList / G = 1) := hb1.out.2 hu1
            clear hu1
            cases g with
            | true =>
              go_wp2
              go_ret2
              exact ⟨HY'.out _ (by rw [if_pos HI.out]; simp [ByteArray.data_append]), hW⟩
            | false =>
              go_wp2
              go_ret2
              exact ⟨HY'.out _ (by rw [if_pos HI.out]; simp), hW⟩
          · have hu1' : (u.toList == [49]) = false := str_ne hu1
            have HI : Hid (¬ dval b.data.toList / G = 1) := fun e => hu1 (hb1.out.1 e)
            clear hu1
            cases g with
            | true =>
              go_wp2
              go_ret2
              exact ⟨HY'.out _ (by rw [if_neg HI.out]; simp [ByteArray.data_append]), hW⟩
            | false =>
              go_wp2
              go_ret2
              exact ⟨HY'.out _ (by rw [if_neg HI.out]; simp [ByteArray.data_append]), hW⟩

set_option maxHeartbeats 400000 in
set_option maxRecDepth 100000 in
theorem specMake_any (g : Bool) (a b : ByteArray) (w : World) (hsa : a.size ≤ maxLen) (hsb : b.size ≤ maxLen) :
    Calls Tryd.prog 15 #[.bool g, .string a, .string b] w fun e w' => MakeAns g a b e ∧ Below w.heap.size w w' := by
  cases hg : (goodB a.data.toList && goodB b.data.toList) with
  | true =>
    have HG := hideT hg
    have hga : goodB a.data.toList = true := by have := HG.out; simp only [Bool.and_eq_true] at this; exact this.1
    have hgb : goodB b.data.toList = true := by have := HG.out; simp only [Bool.and_eq_true] at this; exact this.2
    have hla : a.size ≤ 600 := by have := good_len hga; simpa using this
    have hlb : b.size ≤ 600 := by have := good_len hgb; simpa using this
    have HA := hideT (good_canon hga)
    have HB := hideT (good_canon hgb)
    clear hg hga hgb
    by_cases hz : b = ⟨#[48]⟩
    · have HN : Hid (MakeAns g a b (.returned (.tuple #[.string ⟨#[]⟩, .bool false]))) := by
        refine .inr ⟨?_, rfl⟩
        unfold makeOk
        have : dval b.data.toList = 0 := by rw [hz]; decide
        rw [this]; simp
      subst hz
      go_enter Tryd.func15, Tryd.ntmps15
      go_wp2_with fail
      refine (l1Both_any a _ _ hsa hsb).mono ?_
      rintro e w' ⟨rfl, rfl⟩
      rw [HG.out]
      go_wp2
      go_ret2
      exact ⟨HN.out, Below.refl _ _⟩
    · have hz' : (b.toList == [48]) = false := str_ne (fun h => hz (WideShapes.bytes_inj h))
      have hb0 : dval b.data.toList ≠ 0 := fun e => hz (WideShapes.bytes_inj ((canon_zero HB.out).1 e))
      have HN : Hid (makeOk a b = true) := by
        unfold Hid makeOk
        rw [HG.out]; simp [hb0]
      have HB0 := hideT hb0
      clear hz hb0
      go_enter Tryd.func15, Tryd.ntmps15
      go_wp2_with fail
      refine (l1Both_any a _ _ hsa hsb).mono ?_
      rintro e w' ⟨rfl, rfl⟩
      rw [HG.out]
      go_wp2_with fail
      refine (l2Make_any g a b _ (by omega) (by omega) HA.out HB.out HB0.out).mono ?_
      rintro e w2 ⟨hTN, hW2⟩
      have hTN' := hTN
      obtain ⟨t, rfl, hx1, hx2⟩ := hTN
      clear hx1 hx2
      obtain ⟨bb, hbb⟩ : ∃ bb, bb = (decide (dval a.data.toList / Nat.gcd (dval a.data.toList) (dval b.data.toList) < 10 ^ 600) && decide (dval b.data.toList / Nat.gcd (dval a.data.toList) (dval b.data.toList) < 10 ^ 600)) := ⟨_, rfl⟩
      rw [← hbb] at hTN' ⊢
      have HA' : Hid (MakeAns g a b (.returned (.tuple #[.string t, .bool bb]))) := .inl ⟨HN.out, hTN'⟩
      clear hTN' hbb
      go_wp2
      go_ret2
      exact ⟨HA'.out, hW2⟩
  | false =>
    have HG := hideT hg
    have HN : Hid (MakeAns g a b (.returned (.tuple #[.string ⟨#[]⟩, .bool false]))) := .inr ⟨by unfold makeOk; rw [hg]; rfl, rfl⟩
    clear hg
    go_enter Tryd.func15, Tryd.ntmps15
    go_wp2_with fail
    refine (l1Both_any a _ _ hsa hsb).mono ?_
    rintro e w' ⟨rfl, rfl⟩
    rw [HG.out]
    go_wp2
    go_ret2
    exact ⟨HN.out, Below.refl _ _⟩
end Go.Proofs.YtcdidibphaemoaaDoor

/-
  What spec.l2Parts answers.
-/
namespace Go.Proofs.YtcdidibphaemoaaDoor
open Go.RowKit
set_option linter.unusedVariables false

theorem results_tmp4 {fn : Func} {t u v x : Tmp} (h : fn.results = #[.tmp t, .tmp u, .tmp v, .tmp x]) (tmps : Array Value) (P : Program) (w : World) :
    (results fn tmps).run P w = .ok (.tuple #[tmps.getD t undef, tmps.getD u undef, tmps.getD v undef, tmps.getD x undef]) w := by
  simp [results, h]

/-- What l2Parts should hand back. -/
def PartsN (l : List UInt8) (e : Ending) : Prop := ∃ (g : Bool) (t u : ByteArray), e = .returned (.tuple #[.bool g, .string t, .string u, .bool (okN l)]) ∧
  (okN l = true → g = negN l ∧ goodB t.data.toList = true ∧ dval t.data.toList = topN l ∧ goodB u.data.toList = true ∧ dval u.data.toList = botN l)
theorem PartsN.no {l : List UInt8} (h : okN l = false) : PartsN l (.returned (.tuple #[.bool false, .string ⟨#[]⟩, .string ⟨#[]⟩, .bool false])) :=
  ⟨false, ⟨#[]⟩, ⟨#[]⟩, by rw [h], fun h' => by rw [h] at h'; cases h'⟩

/-- What the loop leaves. -/
def CutAt (l : List UInt8) (o u : ByteArray) : Prop := o.data.toList = overN l ∧ ((brokenN l = false ∧ u.data.toList = [49]) ∨ (brokenN l = true ∧ u.data.toList = underN l ∧ u.data.toList ≠ [48] ∧ u.data.toList ≠ [49]))

theorem getN {t : ByteArray} (k : Nat) (h : k < t.size) : t.data.toList[k]? = some t[k] := by
  have : k < t.data.toList.length := by simpa using h
  rw [List.getElem?_eq_getElem this]; rfl

theorem neg_none {s : ByteArray} (h : ¬ 0 < s.size) : negN s.data.toList = false := by
  have h1 : s.data.toList.length = s.size := by simp
  have : s.data.toList = [] := List.length_eq_zero_iff.1 (by omega)
  rw [this]; rfl
theorem neg_some {s : ByteArray} (h : 0 < s.size) : negN s.data.toList = (s[0] == 45) := by
  unfold negN
  rw [List.head?_eq_getElem?, getN 0 h]; rfl

set_option maxHeartbeats 1000000 in
set_option maxRecDepth 100000 in
theorem l2Parts_any (s : ByteArray) (w : World) (hs : s.size ≤ maxLen) :
    Calls Tryd.prog 50 #[.string s] w fun e w' => PartsN s.data.toList e ∧ Below w.heap.size w w' := by
  unfold maxLen at hs
  go_enter Tryd.func50, Tryd.ntmps50
  go_upto_region 1 with fail
  go_cut [6] (fun x wx => x = .bool (negN s.data.toList) ∧ wx = w)
  case first =>
    by_cases h : 0 < s.size
    · have hn := neg_some h
      cases h45 : (s[0] == 45) with
      | true =>
        rw [h45] at hn
        have h45' : s[0].toNat = 45 := by rw [eq_of_beq h45]; rfl
        have HN := hideT' hn
        clear hn h45
        go_wp2
        go_meet
        case rel => exact ⟨by rw [HN.out], rfl⟩
      | false =>
        rw [h45] at hn
        have h45' : ((s[0].toNat : Int) == 45) = false := by
          rw [beq_eq_false_iff_ne] at h45 ⊢
          intro e; apply h45; exact UInt8.toNat_inj.1 (by simpa using (by omega : s[0].toNat = 45))
        have HN := hideT' hn
        clear hn h45
        go_wp2
        go_meet
        case rel => exact ⟨by rw [HN.out], rfl⟩
    · have HN := hideT' (neg_none h)
      go_wp2
      go_meet
      case rel => exact ⟨by rw [HN.out], rfl⟩
  case rest =>
    obtain ⟨rfl, rfl⟩ := hcut
    obtain ⟨ng, hng⟩ : ∃ ng, ng = negN s.data.toList := ⟨_, rfl⟩
    rw [← hng]
    have HNG := hideT' hng
    clear hng
    go_upto_if 18 with fail
    go_cut [0] (fun x wx => ∃ t : ByteArray, x = .string t ∧ Hid (t.data.toList = bodyN s.data.toList) ∧ t.size ≤ s.size ∧ wx = wc)
    case first =>
      cases ng with
      | true =>
        have hp : 0 < s.size := by
          by_cases h : 0 < s.size
          · exact h
          · have := neg_none h; rw [← HNG.out] at this; cases this
        have hp1 : (1 : Int) ≤ (s.size : Int) := by omega
        have HT : Hid ((s.extract 1 s.size).data.toList = bodyN s.data.toList) := by unfold Hid bodyN; rw [← HNG.out, if_pos rfl, ext_tail]; simp
        go_wp2
        go_meet
        case rel => exact ⟨s.extract 1 s.size, rfl, HT, by simp, rfl⟩
      | false =>
        have HT : Hid (s.data.toList = bodyN s.data.toList) := by unfold Hid bodyN; rw [← HNG.out]; rfl
        go_wp2
        go_meet
        case rel => exact ⟨s, rfl, HT, Nat.le_refl _, rfl⟩
    case rest =>
      obtain ⟨t, rfl, HT, hts, rfl⟩ := hcut
      have hts' : (t.size : Int) ≤ 9223372036854775807 := by omega
      go_upto_block 0 with fail
      go_cut [7, 8] (fun x y wx => ∃ o u : ByteArray, x = .string o ∧ y = .string u ∧ Hid (CutAt s.data.toList o u) ∧ o.size ≤ t.size ∧ (u.size ≤ 1 ∨ u.size ≤ t.size) ∧ wx = wc)
      case first =>
        go_wp2_with fail
        go_loopg [7, 8, 9] t.size (fun g x y i wr => ∃ k : Nat, g = t.size - k ∧ k ≤ t.size ∧ x = .string t ∧ y = .string ⟨#[49]⟩ ∧ i = .int .i64 (k : Int) ∧ Hid (∀ j, j < k → t.data.toList[j]? ≠ some 47) ∧ wr = wc)
        case atStart => exact ⟨0, rfl, Nat.zero_le _, rfl, rfl, rfl, fun j hj => by omega, rfl⟩
        case round =>
          obtain ⟨k, hg, hk, rfl, rfl, rfl, HK, rfl⟩ := hrel
          by_cases hlt : k < t.size
          · have hlt' : (k : Int) < (t.size : Int) := by omega
            by_cases h47 : t[k] = 47
            · have h47' : (t[k].toNat : Int) = 47 := by rw [h47]; rfl
              have hc := cut47_some t.data.toList k (by rw [getN k hlt, h47]) HK.out
              rw [HT.out] at hc
              obtain ⟨k1, hk1⟩ : ∃ k1, k1 = k + 1 := ⟨_, rfl⟩
              have hwk : IntKind.i64.wrap ((k : Int) + 1) = (k1 : Int) := by rw [IntKind.wrap_i64]; omega
              have hk1' : (k1 : Int) ≤ (t.size : Int) := by omega
              have HC : Hid ((t.extract 0 k).data.toList = overN s.data.toList ∧ (t.extract k1 t.size).data.toList = underN s.data.toList ∧ brokenN s.data.toList = true) := by
                unfold Hid overN underN brokenN
                rw [hc, ext_head, ext_tail, HT.out, hk1]; exact ⟨rfl, rfl, rfl⟩
              have hes : (t.extract 0 k).size ≤ t.size ∧ (t.extract k1 t.size).size ≤ t.size := by simp; omega
              have HES := hideT' hes
              clear hc hk1 h47 hes
              by_cases hu1 : (t.extract k1 t.size).data.toList = [49]
              · have hu1' : ((t.extract k1 t.size).toList == [49]) = true := str_eq hu1
                have HN : Hid (okN s.data.toList = false) := by
                  unfold Hid okN
                  rw [HC.out.2.2, ← HC.out.2.1, hu1]
                  simp [show dval [49] = 1 from by decide]
                clear hu1
                go_wp2
                (try simp only [Exit.inBlock, Exit.then]); refine bodyPost_ret (results_tmp4 rfl _ _ _) rfl ?_
                exact ⟨PartsN.no HN.out, Below.refl _ _⟩
              · have hu1' : ((t.extract k1 t.size).toList == [49]) = false := str_ne hu1
                by_cases hu0 : (t.extract k1 t.size).data.toList = [48]
                · have hu0' : ((t.extract k1 t.size).toList == [48]) = true := str_eq hu0
                  have HN : Hid (okN s.data.toList = false) := by
                    unfold Hid okN
                    rw [HC.out.2.2, ← HC.out.2.1, hu0]
                    simp [show dval [48] = 0 from by decide]
                  clear hu0 hu1
                  go_wp2
                  (try simp only [Exit.inBlock, Exit.then]); refine bodyPost_ret (results_tmp4 rfl _ _ _) rfl ?_
                  exact ⟨PartsN.no HN.out, Below.refl _ _⟩
                · have hu0' : ((t.extract k1 t.size).toList == [48]) = false := str_ne hu0
                  have HA : Hid (CutAt s.data.toList (t.extract 0 k) (t.extract k1 t.size)) := ⟨HC.out.1, .inr ⟨HC.out.2.2, HC.out.2.1, hu0, hu1⟩⟩
                  clear hu0 hu1
                  go_wp2
                  go_meet
                  case rel => exact ⟨_, _, rfl, rfl, HA, HES.out.1, .inr HES.out.2, rfl⟩
            · have h47' : ((t[k].toNat : Int) == 47) = false := by
                rw [beq_eq_false_iff_ne]
                intro e; apply h47; exact UInt8.toNat_inj.1 (by simpa using (by omega : t[k].toNat = 47))
              have HK2 : Hid (∀ j, j < k + 1 → t.data.toList[j]? ≠ some 47) := by
                intro j hj
                by_cases e : j = k
                · subst e; rw [getN j hlt]; intro h; exact h47 (by injection h)
                · exact HK.out j (by omega)
              clear h47
              go_wp2
              go_roundg (t.size - (k + 1))
              case measure => omega
              case rel => exact ⟨k + 1, rfl, by omega, rfl, rfl, by go_num, HK2, rfl⟩
          · have hc := cut47_none t.data.toList (fun j => by
              by_cases hj : j < t.size
              · exact HK.out j (by omega)
              · rw [List.getElem?_eq_none (by simp; omega)]; simp)
            rw [HT.out] at hc
            have HA : Hid (CutAt s.data.toList t ⟨#[49]⟩) := by
              refine ⟨by unfold overN; rw [hc, HT.out], .inl ⟨by unfold brokenN; rw [hc], rfl⟩⟩
            clear hc
            go_wp2
            go_meet
            case rel => exact ⟨t, ⟨#[49]⟩, rfl, rfl, HA, Nat.le_refl _, .inl (Nat.le_refl _), rfl⟩
      case rest =>
        obtain ⟨o, u, rfl, rfl, HC, hos, hus, rfl⟩ := hcut
        have hos' : o.size ≤ maxLen := by unfold maxLen; omega
        have hus' : u.size ≤ maxLen := by unfold maxLen; omega
        cases hg : (goodB o.data.toList && goodB u.data.toList) with
        | false =>
          have HG := hideT' hg
          have HN : Hid (okN s.data.toList = false) := by
            unfold Hid okN
            obtain ⟨h1, ⟨h2, h3⟩ | ⟨h2, h3, h4, h5⟩⟩ := HC.out
            · rw [h1, h3, show goodB [49] = true from by decide, Bool.and_true] at hg
              rw [hg]; rfl
            · rw [h1, h3, Bool.and_eq_false_iff] at hg
              rcases hg with hg | hg
              · rw [hg]; rfl
              · rw [hg, h2]; simp
          clear hg
          go_wp2_with fail
          refine (l1Both_any o u _ hos' hus').mono ?_
          rintro e w' ⟨rfl, rfl⟩
          rw [HG.out]
          go_wp2
          (try simp only [Exit.inBlock, Exit.then]); refine bodyPost_ret (results_tmp4 rfl _ _ _) rfl ?_
          exact ⟨PartsN.no HN.out, Below.refl _ _⟩
        | true =>
          have HG := hideT' hg
          have hgo : goodB o.data.toList = true := by have := HG.out; simp only [Bool.and_eq_true] at this; exact this.1
          have hgu : goodB u.data.toList = true := by have := HG.out; simp only [Bool.and_eq_true] at this; exact this.2
          have hlo : o.size ≤ 600 := by have := good_len hgo; simpa using this
          have hlu : u.size ≤ 600 := by have := good_len hgu; simpa using this
          have HGO := hideT' hgo
          have HGU := hideT' hgu
          clear hg hgo hgu
          by_cases h0 : ng = true ∧ o.data.toList = [48]
          · obtain ⟨h1, h0⟩ := h0
            subst h1
            have h0' : (o.toList == [48]) = true := str_eq h0
            have HN : Hid (okN s.data.toList = false) := by
              unfold Hid okN
              rw [← HC.out.1, h0, ← HNG.out]
              simp [show dval [48] = 0 from by decide]
            clear h0
            go_wp2_with fail
            refine (l1Both_any o u _ hos' hus').mono ?_
            rintro e w' ⟨rfl, rfl⟩
            rw [HG.out]
            go_wp2
            (try simp only [Exit.inBlock, Exit.then]); refine bodyPost_ret (results_tmp4 rfl _ _ _) rfl ?_
            exact ⟨PartsN.no HN.out, Below.refl _ _⟩
          · have HSG : Hid ((goodB (overN s.data.toList) && !(negN s.data.toList && decide (dval (overN s.data.toList) = 0))) = true) := by
              unfold Hid
              rw [← HC.out.1, HGO.out, ← HNG.out]
              cases ng with
              | false => rfl
              | true =>
                have : dval o.data.toList ≠ 0 := fun e => h0 ⟨rfl, (canon_zero (good_canon HGO.out)).1 e⟩
                simp [this]
            have h0' : ng = false ∨ (o.toList == [48]) = false := by
              cases ng with
              | false => exact .inl rfl
              | true => exact .inr (str_ne (fun e => h0 ⟨rfl, e⟩))
            clear h0
            by_cases hu1 : u.data.toList = [49]
            · have hu1' : (u.toList == [49]) = true := str_eq hu1
              have HB : Hid (brokenN s.data.toList = false) := by
                obtain ⟨h1, ⟨h2, h3⟩ | ⟨h2, h3, h4, h5⟩⟩ := HC.out
                · exact h2
                · exact absurd hu1 h5
              have HN : Hid (okN s.data.toList = true) := by
                unfold Hid okN
                rw [HSG.out, HB.out]; rfl
              have HY : Hid (PartsN s.data.toList (.returned (.tuple #[.bool ng, .string o, .string u, .bool true]))) := ⟨ng, o, u, by rw [HN.out], fun _ => ⟨HNG.out, HGO.out, by unfold topN; rw [HC.out.1], HGU.out, by unfold botN; rw [HB.out, hu1, if_neg (by decide)]; decide⟩⟩
              clear hu1
              rcases h0' with h0' | h0'
              · subst h0'
                go_wp2_with fail
                refine (l1Both_any o u _ hos' hus').mono ?_
                rintro e w' ⟨rfl, rfl⟩
                rw [HG.out]
                go_wp2
                (try simp only [Exit.inBlock, Exit.then]); refine bodyPost_ret (results_tmp4 rfl _ _ _) rfl ?_
                exact ⟨HY.out, Below.refl _ _⟩
              · cases ng with
                | false =>
                  go_wp2_with fail
                  refine (l1Both_any o u _ hos' hus').mono ?_
                  rintro e w' ⟨rfl, rfl⟩
                  rw [HG.out]
                  go_wp2
                  (try simp only [Exit.inBlock, Exit.then]); refine bodyPost_ret (results_tmp4 rfl _ _ _) rfl ?_
                  exact ⟨HY.out, Below.refl _ _⟩
                | true =>
                  go_wp2_with fail
                  refine (l1Both_any o u _ hos' hus').mono ?_
                  rintro e w' ⟨rfl, rfl⟩
                  rw [HG.out]
                  go_wp2
                  (try simp only [Exit.inBlock, Exit.then]); refine bodyPost_ret (results_tmp4 rfl _ _ _) rfl ?_
                  exact ⟨HY.out, Below.refl _ _⟩
            · have hu1' : (u.toList == [49]) = false := str_ne hu1
              have HB : Hid (brokenN s.data.toList = true ∧ u.data.toList = underN s.data.toList ∧ dval (underN s.data.toList) ≠ 0 ∧ dval (underN s.data.toList) ≠ 1) := by
                obtain ⟨h1, ⟨h2, h3⟩ | ⟨h2, h3, h4, h5⟩⟩ := HC.out
                · exact absurd h3 hu1
                · refine ⟨h2, h3, ?_, ?_⟩
                  · rw [← h3]; exact fun e => h4 ((canon_zero (good_canon HGU.out)).1 e)
                  · rw [← h3]; exact fun e => h5 ((canon_one (good_canon HGU.out)).1 e)
              have HGU' : Hid (goodB (underN s.data.toList) = true) := by unfold Hid; rw [← HB.out.2.1]; exact HGU.out
              clear hu1
              have key : ∀ (c : ByteArray), canonB c.data.toList = true → dval c.data.toList = Nat.gcd (dval o.data.toList) (dval u.data.toList) → (c.data.toList = [49] → PartsN s.data.toList (.returned (.tuple #[.bool ng, .string o, .string u, .bool true]))) ∧ (c.data.toList ≠ [49] → okN s.data.toList = false) := by
                intro c hc hv
                rw [HC.out.1, HB.out.2.1] at hv
                constructor
                · intro h1
                  have hg1 : Nat.gcd (dval (overN s.data.toList)) (dval (underN s.data.toList)) = 1 := by rw [← hv, h1]; decide
                  have HN : okN s.data.toList = true := by
                    unfold okN
                    rw [HSG.out, HB.out.1, HGU'.out, decide_eq_true HB.out.2.2.1, decide_eq_true HB.out.2.2.2, decide_eq_true hg1]; rfl
                  exact ⟨ng, o, u, by rw [HN], fun _ => ⟨HNG.out, HGO.out, by unfold topN; rw [HC.out.1], HGU.out, by unfold botN; rw [HB.out.1, HB.out.2.1]; rfl⟩⟩
                · intro h1
                  have hg1 : ¬ Nat.gcd (dval (overN s.data.toList)) (dval (underN s.data.toList)) = 1 := by rw [← hv]; exact fun e => h1 ((canon_one hc).1 e)
                  unfold okN
                  rw [HB.out.1, decide_eq_false hg1]; simp
              have KEY := hideT' key
              clear key
              rcases h0' with h0' | h0'
              · subst h0'
                go_wp2_with fail
                refine (l1Both_any o u _ hos' hus').mono ?_
                rintro e w' ⟨rfl, rfl⟩
                rw [HG.out]
                go_wp2_with fail
                refine (l1Gcd_any o u _ (by omega) (by omega) (good_canon HGO.out) (good_canon HGU.out)).mono ?_
                rintro e w2 ⟨c, rfl, hc, hv, hW2⟩
                have K := hideT' (KEY.out c hc hv)
                clear hc hv
                by_cases hc1 : c.data.toList = [49]
                · have hc1' : (c.toList == [49]) = true := str_eq hc1
                  have HY := hideT' (K.out.1 hc1)
                  clear hc1
                  go_wp2
                  (try simp only [Exit.inBlock, Exit.then]); refine bodyPost_ret (results_tmp4 rfl _ _ _) rfl ?_
                  exact ⟨HY.out, hW2⟩
                · have hc1' : (c.toList == [49]) = false := str_ne hc1
                  have HN := hideT' (K.out.2 hc1)
                  clear hc1
                  go_wp2
                  (try simp only [Exit.inBlock, Exit.then]); refine bodyPost_ret (results_tmp4 rfl _ _ _) rfl ?_
                  exact ⟨PartsN.no HN.out, hW2⟩
              · cases ng with
                | false =>
                  go_wp2_with fail
                  refine (l1Both_any o u _ hos' hus').mono ?_
                  rintro e w' ⟨rfl, rfl⟩
                  rw [HG.out]
                  go_wp2_with fail
                  refine (l1Gcd_any o u _ (by omega) (by omega) (good_canon HGO.out) (good_canon HGU.out)).mono ?_
                  rintro e w2 ⟨c, rfl, hc, hv, hW2⟩
                  have K := hideT' (KEY.out c hc hv)
                  clear hc hv
                  by_cases hc1 : c.data.toList = [49]
                  · have hc1' : (c.toList == [49]) = true := str_eq hc1
                    have HY := hideT' (K.out.1 hc1)
                    clear hc1
                    go_wp2
                    (try simp only [Exit.inBlock, Exit.then]); refine bodyPost_ret (results_tmp4 rfl _ _ _) rfl ?_
                    exact ⟨HY.out, hW2⟩
                  · have hc1' : (c.toList == [49]) = false := str_ne hc1
                    have HN := hideT' (K.out.2 hc1)
                    clear hc1
                    go_wp2
                    (try simp only [Exit.inBlock, Exit.then]); refine bodyPost_ret (results_tmp4 rfl _ _ _) rfl ?_
                    exact ⟨PartsN.no HN.out, hW2⟩
                | true =>
                  go_wp2_with fail
                  refine (l1Both_any o u _ hos' hus').mono ?_
                  rintro e w' ⟨rfl, rfl⟩
                  rw [HG.out]
                  go_wp2_with fail
                  refine (l1Gcd_any o u _ (by omega) (by omega) (good_canon HGO.out) (good_canon HGU.out)).mono ?_
                  rintro e w2 ⟨c, rfl, hc, hv, hW2⟩
                  have K := hideT' (KEY.out c hc hv)
                  clear hc hv
                  by_cases hc1 : c.data.toList = [49]
                  · have hc1' : (c.toList == [49]) = true := str_eq hc1
                    have HY := hideT' (K.out.1 hc1)
                    clear hc1
                    go_wp2
                    (try simp only [Exit.inBlock, Exit.then]); refine bodyPost_ret (results_tmp4 rfl _ _ _) rfl ?_
                    exact ⟨HY.out, hW2⟩
                  · have hc1' : (c.toList == [49]) = false := str_ne hc1
                    have HN := hideT' (K.out.2 hc1)
                    clear hc1
                    go_wp2
                    (try simp only [Exit.inBlock, Exit.then]); refine bodyPost_ret (results_tmp4 rfl _ _ _) rfl ?_
                    exact ⟨PartsN.no HN.out, hW2⟩
end Go.Proofs.YtcdidibphaemoaaDoor

/-
  What floor of impl, impl.FloorNum and spec.FloorNum answer.
-/
namespace Go.Proofs.YtcdidibphaemoaaDoor
open Go.RowKit
set_option linter.unusedVariables false

theorem okN_bot {l : List UInt8} (h : okN l = true) : botN l ≠ 0 := by
  unfold okN at h
  unfold botN
  cases hb : brokenN l with
  | false => simp
  | true =>
    rw [hb] at h
    simp only [Bool.and_eq_true, Bool.not_true, Bool.false_or, decide_eq_true_eq] at h
    rw [if_pos rfl]
    exact h.2.2.1
theorem okN_neg {l : List UInt8} (h : okN l = true) (hn : negN l = true) : topN l ≠ 0 := by
  unfold okN at h
  unfold topN
  rw [hn] at h
  simp only [Bool.and_eq_true, Bool.true_and, Bool.not_eq_true', decide_eq_false_iff_not] at h
  exact h.1.2
theorem okN_lt {l : List UInt8} (h : okN l = true) : topN l < 10 ^ 600 := by
  unfold okN at h
  simp only [Bool.and_eq_true] at h
  exact good_lt' h.1.1

/-- The floor's size. -/
def flo (g : Bool) (n m : Nat) : Nat := n / m + if g && decide (n % m ≠ 0) then 1 else 0
theorem flo_le {g : Bool} {n m : Nat} (hg : g = true → n ≠ 0) : flo g n m ≤ n := by
  unfold flo
  cases g with
  | false => simp; exact Nat.div_le_self _ _
  | true =>
    by_cases h : n % m = 0
    · rw [decide_eq_false (by simp [h])]; simp; exact Nat.div_le_self _ _
    · rw [decide_eq_true h]
      have hm : m ≠ 1 := fun e => h (by rw [e]; exact Nat.mod_one _)
      by_cases h0 : m = 0
      · subst h0; simp; have := hg rfl; omega
      · have := Nat.div_lt_self (Nat.pos_of_ne_zero (hg rfl)) (show 1 < m by omega)
        exact this
theorem flo_ne {n m : Nat} (hm : m ≠ 0) (hn : n ≠ 0) : flo true n m ≠ 0 := by
  unfold flo
  by_cases h : n % m = 0
  · rw [decide_eq_false (by simp [h])]
    have := Nat.div_pos (Nat.le_of_dvd (Nat.pos_of_ne_zero hn) (Nat.dvd_of_mod_eq_zero h)) (Nat.pos_of_ne_zero hm)
    exact Nat.ne_of_gt this
  · rw [decide_eq_true h]; simp

def FloorAns (a : ByteArray) (e : Ending) : Prop :=
  (okN a.data.toList = true ∧ TellsN (negN a.data.toList) (flo (negN a.data.toList) (topN a.data.toList) (botN a.data.toList)) 1 e) ∨ (okN a.data.toList = false ∧ Mute e)
theorem FloorAns.same {a : ByteArray} {e e' : Ending} (h : FloorAns a e) (h' : FloorAns a e') : ∃ (s : ByteArray) (o : Bool), e = .returned (.tuple #[.string s, .bool o]) ∧ e' = .returned (.tuple #[.string s, .bool o]) := by
  rcases h with ⟨g1, h⟩ | ⟨g1, h⟩ <;> rcases h' with ⟨g2, h'⟩ | ⟨g2, h'⟩
  · exact h.same h'
  · rw [g1] at g2; cases g2
  · rw [g1] at g2; cases g2
  · exact h.same h'

theorem TellsN.form2 {g : Bool} {n m : Nat} {e : Ending} (h : TellsN g n m e) : ∃ (s : ByteArray) (o : Bool), e = .returned (.tuple #[.string s, .bool o]) := by
  obtain ⟨s, rfl, _, _⟩ := h
  exact ⟨s, _, rfl⟩
theorem run_row_nat {o : Oper} {a : Act} {w : World} (x : Operand) (ho : o.op = .load 36 x) (b : Nat) (hx : a.eval x = .pointer (some ⟨b, 0, none⟩)) (u : Int) (p : List Int) (hN : NatAt w b u p) (hl : p.length = 204) : (execOp a.eval o).run Tryd.prog w = .ok (.value (.agg (natC u p))) w := by
  unfold execOp
  simp only [ho, hx, Instr.loadAt, Instr.sureAddr, Sem.run_bind, Sem.run_pure, Result.andThen_ok, run_loadVar_row w b 36 36 (natC u p) (0, 0) _ hN Tryd.underlying36 rfl (nat_info u p hl)]
theorem run_plus2 {o : Oper} {a : Act} {w : World} (x y : Tmp) (ts : Array TypeId) (ho : o.op = .call { callee := .value (.func 94), args := #[.tmp x, .tmp y], argTypes := ts }) (vx vy : Value) (hx : a.eval (.tmp x) = vx) (hy : a.eval (.tmp y) = vy) : (execOp a.eval o).run Tryd.prog w = .ok (.enter 94 #[vx, vy]) w := by
  have hx' : a.tmps[x]?.getD undef = vx := by simpa [Act.eval] using hx
  have hy' : a.tmps[y]?.getD undef = vy := by simpa [Act.eval] using hy
  unfold execOp
  simp only [ho]
  go_simp

/-- One is added to a variable, in either order of the load and the first call. -/
theorem region_inc {id : Nat} {Q : Exit → Act → World → Prop} {a : Act} {w3 : World} {N : Nat} (ps : String) (B i : Nat) (r : List Int) (hR : Rep N i r) (hi : i ≤ 100) (hx : a.eval (.tmp 3) = .pointer (some ⟨B, 0, none⟩)) (hsz : 30 ≤ a.tmps.size) (hN : NatAt w3 B i r)
    (h : ∀ (c d : Nat) (t u : List Int) (w5 w6 : World), Rep (N + 1) d u → NatAt w6 B d u → Below w3.heap.size w3 w5 → w5.grownBy w6 (some B) → w6.heap.size = w5.heap.size →
      Q .normal (((a.put (some 22) (.agg (natC i r))).put (some 23) (.agg (natC c t))).put (some 24) (.agg (natC d u))) w6) :
    (Code.region id #[{ dst := some 22, op := Op.load 36 (Operand.tmp 3), type := 36, pos := ps, after := #[], guard := none }, { dst := some 23, op := Op.call { callee := Callee.value (Operand.func 74), args := #[Operand.const (Value.int IntKind.i64 1)], argTypes := #[3] }, type := 36, pos := ps, after := #[], guard := none }, { dst := some 24, op := Op.call { callee := Callee.value (Operand.func 94), args := #[Operand.tmp 22, Operand.tmp 23], argTypes := #[36, 36] }, type := 36, pos := ps, after := #[{ on := 0, ground := Ground.data }, { on := 1, ground := Ground.data }, { on := 1, ground := Ground.chain }], guard := none }, { dst := none, op := Op.store 36 (Operand.tmp 3) (Operand.tmp 24), type := 0, pos := ps, after := #[{ on := 2, ground := Ground.data }, { on := 2, ground := Ground.chain }, { on := 0, ground := Ground.phase }, { on := 1, ground := Ground.phase }, { on := 2, ground := Ground.phase }], guard := none }] true).wp Tryd.prog Q a w3 := by
  have hr := hR.len
  have lB := hN.lt
  refine held_begin (fun _ => True) (by kernel_rfl) ?_
  refine wpAnyH_ready (rs := [0, 1]) (by kernel_rfl) (by simp) ?_
  refine ready_val 0 (some 22) rfl rfl rfl (.agg (natC i r)) w3.drew (run_row_nat (.tmp 3) rfl B hx i r hN hr) trivial ?_ (ready_call 1 (some 23) rfl rfl rfl 74 #[.int .i64 1] (by go_simp) _ (natOf_any 1 1 w3.drew rfl (by omega) (by omega)) ?_ AllReadyH.nil)
  · refine held_call 1 (some 23) (by kernel_rfl) rfl rfl rfl 74 #[.int .i64 1] (by go_simp) _ (natOf_any 1 1 w3.drew rfl (by omega) (by omega)) ?_
    rintro e w4 ⟨c, t, rfl, hR4, hW4⟩
    have hW4 : Below w3.heap.size w3 w4 := ⟨hW4.os, hW4.tape, hW4.output, hW4.size, hW4.block⟩
    refine ⟨_, rfl, trivial, ?_⟩
    refine held_call 2 (some 24) (by kernel_rfl) rfl rfl rfl 94 #[.agg (natC i r), .agg (natC c t)] (run_plus2 22 23 _ rfl _ _ (by rw [put_ne _ _ _ _ (by decide), put_eq _ _ _ (by omega)]) (by rw [put_eq _ _ _ (by simp only [put_size]; omega)])) _ (plus_any w4 hR hR4 hi (hR4.fits.2 (one_lt' 600 (by decide)))) ?_
    rintro e w5 ⟨d, u, rfl, hR5, hW5⟩
    have hu := hR5.len
    have hW5' : Below w3.heap.size w3 w5 := hW4.trans (hW5.mono hW4.size)
    refine ⟨_, rfl, trivial, ?_⟩
    refine held_store 3 (by kernel_rfl) rfl rfl (.tmp 3) (.tmp 24) rfl rfl B d u (by rw [put_ne _ _ _ _ (by decide), put_ne _ _ _ _ (by decide), put_ne _ _ _ _ (by decide)]; exact hx) (by rw [put_eq _ _ _ (by simp only [put_size]; omega)]) i r (hN.below hW5' lB) hr hu ?_
    intro w6 hN6 hg6 hs6
    refine ⟨trivial, ?_⟩
    refine wpAnyH_done (by kernel_rfl) ?_ _
    refine NoPanic.normal ?_
    exact h c d t u w5 w6 hR5 hN6 hW5' hg6 hs6
  · rintro e w4 ⟨c, t, rfl, hR4, hW4⟩
    have hW4 : Below w3.heap.size w3 w4 := ⟨hW4.os, hW4.tape, hW4.output, hW4.size, hW4.block⟩
    refine ⟨_, rfl, trivial, ?_⟩
    refine held_load1 0 (some 22) (by kernel_rfl) rfl rfl rfl (.tmp 3) rfl B (by rw [put_ne _ _ _ _ (by decide)]; exact hx) i r (hN.below hW4 lB) hr trivial ?_
    refine held_call 2 (some 24) (by kernel_rfl) rfl rfl rfl 94 #[.agg (natC i r), .agg (natC c t)] (run_plus2 22 23 _ rfl _ _ (by rw [put_eq _ _ _ (by simp only [put_size]; omega)]) (by rw [put_ne _ _ _ _ (by decide), put_eq _ _ _ (by omega)])) _ (plus_any w4 hR hR4 hi (hR4.fits.2 (one_lt' 600 (by decide)))) ?_
    rintro e w5 ⟨d, u, rfl, hR5, hW5⟩
    have hu := hR5.len
    have hW5' : Below w3.heap.size w3 w5 := hW4.trans (hW5.mono hW4.size)
    refine ⟨_, rfl, trivial, ?_⟩
    refine held_store 3 (by kernel_rfl) rfl rfl (.tmp 3) (.tmp 24) rfl rfl B d u (by rw [put_ne _ _ _ _ (by decide), put_ne _ _ _ _ (by decide), put_ne _ _ _ _ (by decide)]; exact hx) (by rw [put_eq _ _ _ (by simp only [put_size]; omega)]) i r (hN.below hW5' lB) hr hu ?_
    intro w6 hN6 hg6 hs6
    refine ⟨trivial, ?_⟩
    refine wpAnyH_done (by kernel_rfl) ?_ _
    refine NoPanic.normal ?_
    have := h c d t u w5 w6 hR5 hN6 hW5' hg6 hs6
    rw [put_comm _ 22 23 _ _ (by decide)] at this
    exact this

set_option maxHeartbeats 1000000 in
set_option maxRecDepth 100000 in
theorem floor_any {n m k j : Nat} {p q : List Int} (g : Bool) (w : World) (hP : Rep n k p) (hQ : Rep m j q) (hk : k ≤ 100) (hj : 0 < j) :
    Calls Tryd.prog 54 #[.agg (numC g k p j q)] w fun e w' => ∃ (i : Nat) (r : List Int), e = .returned (.agg (wholeC g i r)) ∧ Rep (flo g n m) i r ∧ Below w.heap.size w w' := by
  have hz := zero_nat.1
  have hz1 := zero_whole.1
  have hp := hP.len
  have hq := hQ.len
  have A : NumAt ((w.alloc (.cells (numC g k p j q) 45)).alloc (.cells (wholeC false 0 zP) 43)) w.heap.size g k p j q := RowAt.old (NumAt.new w g k p j q) _
  have C : WholeAt ((w.alloc (.cells (numC g k p j q) 45)).alloc (.cells (wholeC false 0 zP) 43)) (w.heap.size + 1) false 0 zP := by
    have := WholeAt.new (w.alloc (.cells (numC g k p j q) 45)) false 0 zP
    simp only [World.size_alloc] at this; exact this
  have hB : Below w.heap.size w ((w.alloc (.cells (numC g k p j q) 45)).alloc (.cells (wholeC false 0 zP) 43)) := ((Below.refl _ _).alloc (Nat.le_refl _) _).alloc (by simp) _
  have HP := hide (And.intro hP hQ)
  clear hP hQ
  go_enter Tryd.func54, Tryd.ntmps54
  go_wp2_with (first | (refine load_mid_nat rfl _ rfl w.heap.size 1 rfl k p A.size hp ?_) | (refine load_mid_nat rfl _ rfl w.heap.size 206 rfl j q (A.bottom hp) hq ?_))
  refine (divide_any _ HP.out.1 HP.out.2 hj (by omega)).mono ?_
  rintro e w1 ⟨i, i', r, r', rfl, hR, hR', hW1⟩
  have hr := hR.len
  have hr' := hR'.len
  have hi : i ≤ 100 := by have := hR.cnt_le HP.out.1 (Nat.div_le_self _ _); omega
  have HR := hide (And.intro hR hR')
  have hs1 := hW1.size
  simp only [World.size_alloc] at hs1
  have A1 : NumAt w1 w.heap.size g k p j q := RowAt.below A hW1 (by simp; omega)
  have C1 : WholeAt w1 (w.heap.size + 1) false 0 zP := RowAt.below C hW1 (by simp)
  have hB1 : Below w.heap.size w w1 := hB.trans (hW1.mono (by simp; omega))
  have F1 := (NatAt.new w1 0 zP).old (.cells (natC 0 zP) 36)
  have F2 := NatAt.new (w1.alloc (.cells (natC 0 zP) 36)) 0 zP
  simp only [World.size_alloc] at F2
  clear A C hB hW1 hR hR'
  by_cases hup : g = true ∧ i' ≠ 0
  · obtain ⟨hg1, hi'⟩ := hup
    have hi'' : (0 : Int) < (i' : Int) := by omega
    subst hg1
    have HF : Hid (flo true n m = n / m + 1) := by
      have : n % m ≠ 0 := fun e => hi' (HR.out.2.zero_iff.2 e)
      unfold Hid flo; rw [decide_eq_true this]; rfl
    go_wp2_with (first | (refine store_nat rfl _ _ rfl rfl w1.heap.size i r rfl rfl 0 zP F1 zP_len hr ?_; intro w2 hN2 hg2 hs2) | (refine store_nat rfl _ _ rfl rfl (w1.heap.size + 1) i' r' rfl rfl 0 zP (F2.grown hg2 (by simp)) zP_len hr' ?_; intro w3 hN3 hg3 hs3; have c3 := hN3.c0; have A3 : NumAt w3 w.heap.size true k p j q := RowAt.grown (RowAt.grown (RowAt.old (RowAt.old A1 (.cells (natC 0 zP) 36)) (.cells (natC 0 zP) 36)) hg2 (by simp; omega)) hg3 (by simp; omega); have n3 := A3.neg))
    have hs3' : w3.heap.size = w1.heap.size + 1 + 1 := by rw [hs3, hs2]; simp
    have hN23 := hN2.grown hg3 (by simp)
    have C3 : WholeAt w3 (w.heap.size + 1) false 0 zP := RowAt.grown (RowAt.grown (RowAt.old (RowAt.old C1 (.cells (natC 0 zP) 36)) (.cells (natC 0 zP) 36)) hg2 (by simp; omega)) hg3 (by simp; omega)
    have hB3 : Below w.heap.size w w3 := (((hB1.alloc (by omega) _).alloc (by simp; omega) _).grown hg2 (by simp; omega) (by intro k hk; cases hk; omega)).grown hg3 (by rw [hs2]; simp; omega) (by intro k hk; cases hk; omega)
    clear A1 C1 hB1 F1 F2 hN2 hg2 hs2 hg3 hs3 c3 n3 hi' hi''
    refine region_inc "l2_num.go:298" w1.heap.size i r HR.out.1 hi rfl (by simp) hN23 ?_
    intro c d t u w5 w6 hR6 hN6 hW5 hg6 hs6
    have hu := hR6.len
    have hs5 := hW5.size
    have A6 : NumAt w6 w.heap.size true k p j q := RowAt.grown (RowAt.below A3 hW5 (by omega)) hg6 (by simp; omega)
    have C6 : WholeAt w6 (w.heap.size + 1) false 0 zP := RowAt.grown (RowAt.below C3 hW5 (by omega)) hg6 (by simp; omega)
    have hB6 : Below w.heap.size w w6 := (hB3.trans (hW5.mono hB3.size)).grown hg6 (by have := hB3.size; omega) (by intro k hk; cases hk; omega)
    have HR6 := hide hR6
    have n6 := A6.neg
    clear hN3 hN23 A3 C3 hB3 hW5 hg6 hR6
    simp only [Act.put, List.setIfInBounds_toArray, List.set_cons_zero, List.set_cons_succ]
    go_wp2_with (first | (refine load_nat rfl _ rfl w1.heap.size rfl d u hN6 hu ?_) | (refine build_whole rfl _ _ rfl _ rfl true d u hu rfl rfl ?_) | (refine store_whole rfl _ _ rfl rfl (w.heap.size + 1) true d u rfl rfl false 0 zP C6 zP_len hu ?_; intro w7 hN7 hg7 hs7))
    refine bodyPost_ret (v := .agg (wholeC true d u)) (res_whole Tryd.results54 _ _ (w.heap.size + 1) _ _ _ rfl hN7 hu) rfl ⟨d, u, rfl, by rw [HF.out]; exact HR6.out, ?_⟩
    exact hB6.grown hg7 (by have := hB6.size; omega) (by intro k hk; cases hk; omega)
  · have hup' : g = false ∨ i' = 0 := by
      cases g with
      | false => exact .inl rfl
      | true => exact .inr (by by_cases h : i' = 0; exact h; exact absurd ⟨rfl, h⟩ hup)
    have HF : Hid (flo g n m = n / m) := by
      unfold Hid flo
      rcases hup' with h | h
      · rw [h]; rfl
      · rw [HR.out.2.zero_iff.1 h]; simp
    clear hup
    rcases hup' with h | h
    · subst h
      go_wp2_with (first | (refine store_nat rfl _ _ rfl rfl w1.heap.size i r rfl rfl 0 zP F1 zP_len hr ?_; intro w2 hN2 hg2 hs2) | (refine store_nat rfl _ _ rfl rfl (w1.heap.size + 1) _ r' rfl rfl 0 zP (F2.grown hg2 (by simp)) zP_len hr' ?_; intro w3 hN3 hg3 hs3; have c3 := hN3.c0; have A3 : NumAt w3 w.heap.size false k p j q := RowAt.grown (RowAt.grown (RowAt.old (RowAt.old A1 (.cells (natC 0 zP) 36)) (.cells (natC 0 zP) 36)) hg2 (by simp; omega)) hg3 (by simp; omega); have n3 := A3.neg) | (refine load_nat rfl _ rfl w1.heap.size rfl i r (hN2.grown hg3 (by simp)) hr ?_) | (refine build_whole rfl _ _ rfl _ rfl false i r hr rfl rfl ?_) | (refine store_whole rfl _ _ rfl rfl (w.heap.size + 1) false i r rfl rfl false 0 zP (RowAt.grown (RowAt.grown (RowAt.old (RowAt.old C1 (.cells (natC 0 zP) 36)) (.cells (natC 0 zP) 36)) hg2 (by simp; omega)) hg3 (by simp; omega)) zP_len hr ?_; intro w6 hN6 hg6 hs6))
      have hB3 : Below w.heap.size w w3 := (((hB1.alloc (by omega) _).alloc (by simp; omega) _).grown hg2 (by simp; omega) (by intro k hk; cases hk; omega)).grown hg3 (by rw [hs2]; simp; omega) (by intro k hk; cases hk; omega)
      refine bodyPost_ret (v := .agg (wholeC false i r)) (res_whole Tryd.results54 _ _ (w.heap.size + 1) _ _ _ rfl hN6 hr) rfl ⟨i, r, rfl, by rw [HF.out]; exact HR.out.1, ?_⟩
      exact hB3.grown hg6 (by rw [hs3, hs2]; simp; omega) (by intro k hk; cases hk; omega)
    · cases g with
      | false =>
        go_wp2_with (first | (refine store_nat rfl _ _ rfl rfl w1.heap.size i r rfl rfl 0 zP F1 zP_len hr ?_; intro w2 hN2 hg2 hs2) | (refine store_nat rfl _ _ rfl rfl (w1.heap.size + 1) _ r' rfl rfl 0 zP (F2.grown hg2 (by simp)) zP_len hr' ?_; intro w3 hN3 hg3 hs3; have c3 := hN3.c0; have A3 : NumAt w3 w.heap.size false k p j q := RowAt.grown (RowAt.grown (RowAt.old (RowAt.old A1 (.cells (natC 0 zP) 36)) (.cells (natC 0 zP) 36)) hg2 (by simp; omega)) hg3 (by simp; omega); have n3 := A3.neg) | (refine load_nat rfl _ rfl w1.heap.size rfl i r (hN2.grown hg3 (by simp)) hr ?_) | (refine build_whole rfl _ _ rfl _ rfl false i r hr rfl rfl ?_) | (refine store_whole rfl _ _ rfl rfl (w.heap.size + 1) false i r rfl rfl false 0 zP (RowAt.grown (RowAt.grown (RowAt.old (RowAt.old C1 (.cells (natC 0 zP) 36)) (.cells (natC 0 zP) 36)) hg2 (by simp; omega)) hg3 (by simp; omega)) zP_len hr ?_; intro w6 hN6 hg6 hs6))
        have hB3 : Below w.heap.size w w3 := (((hB1.alloc (by omega) _).alloc (by simp; omega) _).grown hg2 (by simp; omega) (by intro k hk; cases hk; omega)).grown hg3 (by rw [hs2]; simp; omega) (by intro k hk; cases hk; omega)
        refine bodyPost_ret (v := .agg (wholeC false i r)) (res_whole Tryd.results54 _ _ (w.heap.size + 1) _ _ _ rfl hN6 hr) rfl ⟨i, r, rfl, by rw [HF.out]; exact HR.out.1, ?_⟩
        exact hB3.grown hg6 (by rw [hs3, hs2]; simp; omega) (by intro k hk; cases hk; omega)
      | true =>
        have hi0 : ¬ (0 : Int) < (i' : Int) := by omega
        subst h
        go_wp2_with (first | (refine store_nat rfl _ _ rfl rfl w1.heap.size i r rfl rfl 0 zP F1 zP_len hr ?_; intro w2 hN2 hg2 hs2) | (refine store_nat rfl _ _ rfl rfl (w1.heap.size + 1) _ r' rfl rfl 0 zP (F2.grown hg2 (by simp)) zP_len hr' ?_; intro w3 hN3 hg3 hs3; have c3 := hN3.c0; have A3 : NumAt w3 w.heap.size true k p j q := RowAt.grown (RowAt.grown (RowAt.old (RowAt.old A1 (.cells (natC 0 zP) 36)) (.cells (natC 0 zP) 36)) hg2 (by simp; omega)) hg3 (by simp; omega); have n3 := A3.neg) | (refine load_nat rfl _ rfl w1.heap.size rfl i r (hN2.grown hg3 (by simp)) hr ?_) | (refine build_whole rfl _ _ rfl _ rfl true i r hr rfl rfl ?_) | (refine store_whole rfl _ _ rfl rfl (w.heap.size + 1) true i r rfl rfl false 0 zP (RowAt.grown (RowAt.grown (RowAt.old (RowAt.old C1 (.cells (natC 0 zP) 36)) (.cells (natC 0 zP) 36)) hg2 (by simp; omega)) hg3 (by simp; omega)) zP_len hr ?_; intro w6 hN6 hg6 hs6))
        have hB3 : Below w.heap.size w w3 := (((hB1.alloc (by omega) _).alloc (by simp; omega) _).grown hg2 (by simp; omega) (by intro k hk; cases hk; omega)).grown hg3 (by rw [hs2]; simp; omega) (by intro k hk; cases hk; omega)
        refine bodyPost_ret (v := .agg (wholeC true i r)) (res_whole Tryd.results54 _ _ (w.heap.size + 1) _ _ _ rfl hN6 hr) rfl ⟨i, r, rfl, by rw [HF.out]; exact HR.out.1, ?_⟩
        exact hB3.grown hg6 (by rw [hs3, hs2]; simp; omega) (by intro k hk; cases hk; omega)

set_option maxHeartbeats 1000000 in
set_option maxRecDepth 100000 in
theorem implFloor_any (a : ByteArray) (w : World) (hsa : a.size ≤ maxLen) (hT : Tab w.heap.size w) :
    Calls Tryd.prog 26 #[.string a] w fun e w' => FloorAns a e ∧ Below w.heap.size w w' := by
  have hz := zero_num.1
  have HT : Hid (Tab w.heap.size w) := hT
  clear hT
  go_enter Tryd.func26, Tryd.ntmps26
  go_wp2_with fail
  refine (readNum_any a _ hsa).mono ?_
  rintro e w1 ⟨⟨g, k, j, p, q, rfl, hp, hq, hR⟩, hW1⟩
  have hs1 := hW1.size
  have A := NumAt.new w1 false 0 zP 0 zP
  have hB : Below w.heap.size w (w1.alloc (.cells (numC false 0 zP 0 zP) 45)) := hW1.alloc (by omega) _
  cases hok : okN a.data.toList with
  | true =>
    obtain ⟨hg, ra, rb, hk, hj, hj0⟩ := hR hok
    have RA := hide (And.intro ra rb)
    have HG := hide (And.intro hok hg)
    clear hg ra rb hR hok
    go_wp2_with (first | (refine store_num rfl _ _ rfl rfl w1.heap.size g k p j q rfl rfl false 0 zP 0 zP A zP_len zP_len hp hq ?_; intro w2 hN2 hg2 hs2) | (refine load_num rfl _ rfl w1.heap.size rfl g k p j q hN2 hp hq ?_))
    have hB2 : Below w.heap.size w w2 := hB.grown hg2 (by simp; omega) (by intro k hk; cases hk; omega)
    refine (floor_any g w2 RA.out.1 RA.out.2 hk (Nat.pos_of_ne_zero hj0)).mono ?_
    rintro e w3 ⟨i, r, rfl, hR3, hW3⟩
    have hB3 : Below w.heap.size w w3 := hB2.trans (hW3.mono hB2.size)
    have HT3 : Hid (Tab w3.heap.size w3) := (HT.out.on hB3).up hB3.size
    have HLT : Hid (flo g (topN a.data.toList) (botN a.data.toList) < 10 ^ 600) := Nat.lt_of_le_of_lt (flo_le (fun h => okN_neg HG.out.1 (by rw [← HG.out.2]; exact h))) (okN_lt HG.out.1)
    have hi : i ≤ 100 := hR3.fits.2 HLT.out
    have HR3 := hide hR3
    clear A hB hN2 hg2 hs2 hB2 hW3 hR3
    go_wp2_with fail
    refine (wholeText_any g 10 10 w3 HR3.out hi rfl (by omega) (by omega) HT3.out).mono ?_
    rintro e w4 ⟨s, rfl, hWR, hW4⟩
    have HI : Hid (FloorAns a (.returned (.tuple #[.string s, .bool true]))) := by
      obtain ⟨t, ht, hs⟩ := hWR
      rw [HG.out.2] at ht hs
      refine .inl ⟨HG.out.1, TellsN.yes (by rw [← HG.out.2]; exact HLT.out) (one_lt' 600 (by decide)) ⟨t, ⟨#[49]⟩, ht, InRad.dec one_canon.1 one_canon.2, ?_⟩⟩
      rw [hs, if_pos rfl, List.append_nil]
    clear hWR
    go_wp2
    go_ret2
    exact ⟨HI.out, hB3.trans (hW4.mono hB3.size)⟩
  | false =>
    have HI : Hid (FloorAns a (.returned (.tuple #[.string ⟨#[]⟩, .bool false]))) := .inr ⟨hok, rfl⟩
    clear hok hR
    go_wp2_with (refine store_num rfl _ _ rfl rfl w1.heap.size g k p j q rfl rfl false 0 zP 0 zP A zP_len zP_len hp hq ?_; intro w2 hN2 hg2 hs2)
    go_ret2
    exact ⟨HI.out, hB.grown hg2 (by simp; omega) (by intro k hk; cases hk; omega)⟩

set_option maxHeartbeats 1000000 in
set_option maxRecDepth 100000 in
theorem specFloor_any (a : ByteArray) (w : World) (hsa : a.size ≤ maxLen) :
    Calls Tryd.prog 25 #[.string a] w fun e w' => FloorAns a e ∧ Below w.heap.size w w' := by
  go_enter Tryd.func25, Tryd.ntmps25
  go_wp2_with fail
  refine (l2Parts_any a _ hsa).mono ?_
  rintro e w1 ⟨⟨g, t, u, rfl, hR⟩, hW1⟩
  cases hok : okN a.data.toList with
  | true =>
    obtain ⟨hg, g1, v1, g2, v2⟩ := hR hok
    have hts : t.size ≤ 600 := by have := good_len g1; simpa using this
    have hus : u.size ≤ 600 := by have := good_len g2; simpa using this
    have HG := hideT (And.intro hok (And.intro hg (And.intro (good_canon g1) (good_canon g2))))
    have HV := hideT (And.intro v1 v2)
    have HU0 : Hid (dval u.data.toList ≠ 0) := by unfold Hid; rw [v2]; exact okN_bot hok
    clear hok hg g1 v1 g2 v2 hR
    go_wp2_with fail
    refine (l1Div_any t u w1 (by omega) (by omega) HG.out.2.2.1 HG.out.2.2.2 HU0.out).mono ?_
    rintro e w2 ⟨x, y, rfl, c1, v1, c2, v2, hW2⟩
    have hB2 : Below w.heap.size w w2 := hW1.trans (hW2.mono hW1.size)
    have hxs : x.size ≤ 600 := by have := canon_le_size HG.out.2.2.1 c1 (by rw [v1]; exact Nat.div_le_self _ _); omega
    rw [HV.out.1, HV.out.2] at v1 v2
    have HX := hideT (And.intro (And.intro c1 v1) (And.intro c2 v2))
    clear c1 v1 c2 v2 hW1 hW2
    have key : ∀ (z : ByteArray), dval z.data.toList = flo g (topN a.data.toList) (botN a.data.toList) → ∀ e, TellsN (g && decide (dval z.data.toList ≠ 0)) (dval z.data.toList / Nat.gcd (dval z.data.toList) (dval (⟨#[49]⟩ : ByteArray).data.toList)) (dval (⟨#[49]⟩ : ByteArray).data.toList / Nat.gcd (dval z.data.toList) (dval (⟨#[49]⟩ : ByteArray).data.toList)) e → FloorAns a e := by
      intro z hz e he
      rw [one_canon.2, Nat.gcd_one_right, Nat.div_one, Nat.div_one, hz] at he
      refine .inl ⟨HG.out.1, ?_⟩
      rw [← HG.out.2.1]
      cases g with
      | false => exact he
      | true =>
        have := flo_ne (okN_bot HG.out.1) (okN_neg HG.out.1 HG.out.2.1.symm)
        rw [decide_eq_true this] at he
        exact he
    have KEY := hideT key
    clear key
    by_cases hup : g = true ∧ y.data.toList ≠ [48]
    · obtain ⟨h1, h2⟩ := hup
      subst h1
      have h2' : (y.toList == [48]) = false := str_ne h2
      have HF : Hid (dval x.data.toList + 1 = flo true (topN a.data.toList) (botN a.data.toList)) := by
        have : topN a.data.toList % botN a.data.toList ≠ 0 := by rw [← HX.out.2.2]; exact fun e => h2 ((canon_zero HX.out.2.1).1 e)
        unfold Hid flo; rw [decide_eq_true this, HX.out.1.2]; rfl
      clear h2
      go_wp2_with fail
      refine (l1Add_any x ⟨#[49]⟩ w2 (by omega) (by decide) HX.out.1.1 one_canon.1).mono ?_
      rintro e w3 ⟨z, rfl, hc, hv, hW3⟩
      rw [one_canon.2, HF.out] at hv
      have hzs : z.size ≤ 600 := by
        have h1 : dval z.data.toList < 10 ^ 600 := by
          rw [hv]; exact Nat.lt_of_le_of_lt (flo_le (fun h => okN_neg HG.out.1 HG.out.2.1.symm)) (okN_lt HG.out.1)
        have := (canon_len_le hc 600 (by omega)).2 h1
        simpa using this
      have HZ := hideT (And.intro hc hv)
      have hB3 : Below w.heap.size w w3 := hB2.trans (hW3.mono hB2.size)
      clear hc hv hW3 hB2
      go_wp2_with fail
      refine (l2Make_any true z ⟨#[49]⟩ w3 (by omega) (by decide) HZ.out.1 one_canon.1 (by rw [one_canon.2]; decide)).mono ?_
      rintro e w4 ⟨hTN, hW4⟩
      have HI := hideT (KEY.out z HZ.out.2 e hTN)
      obtain ⟨s, bb, rfl⟩ := hTN.form2
      clear hTN
      go_wp2
      go_ret2
      exact ⟨HI.out, hB3.trans (hW4.mono hB3.size)⟩
    · have hup' : g = false ∨ y.data.toList = [48] := by
        cases g with
        | false => exact .inl rfl
        | true => exact .inr (Classical.byContradiction fun h => hup ⟨rfl, h⟩)
      have HF : Hid (dval x.data.toList = flo g (topN a.data.toList) (botN a.data.toList)) := by
        unfold Hid flo
        rw [HX.out.1.2]
        rcases hup' with h | h
        · rw [h]; rfl
        · have : topN a.data.toList % botN a.data.toList = 0 := by rw [← HX.out.2.2, h]; decide
          rw [this]; simp
      clear hup
      rcases hup' with h | h
      · subst h
        go_wp2_with fail
        refine (l2Make_any false x ⟨#[49]⟩ w2 (by omega) (by decide) HX.out.1.1 one_canon.1 (by rw [one_canon.2]; decide)).mono ?_
        rintro e w4 ⟨hTN, hW4⟩
        have HI := hideT (KEY.out x HF.out e hTN)
        obtain ⟨s, bb, rfl⟩ := hTN.form2
        clear hTN
        go_wp2
        go_ret2
        exact ⟨HI.out, hB2.trans (hW4.mono hB2.size)⟩
      · have h' : (y.toList == [48]) = true := str_eq h
        clear h
        cases g with
        | false =>
          go_wp2_with fail
          refine (l2Make_any false x ⟨#[49]⟩ w2 (by omega) (by decide) HX.out.1.1 one_canon.1 (by rw [one_canon.2]; decide)).mono ?_
          rintro e w4 ⟨hTN, hW4⟩
          have HI := hideT (KEY.out x HF.out e hTN)
          obtain ⟨s, bb, rfl⟩ := hTN.form2
          clear hTN
          go_wp2
          go_ret2
          exact ⟨HI.out, hB2.trans (hW4.mono hB2.size)⟩
        | true =>
          go_wp2_with fail
          refine (l2Make_any true x ⟨#[49]⟩ w2 (by omega) (by decide) HX.out.1.1 one_canon.1 (by rw [one_canon.2]; decide)).mono ?_
          rintro e w4 ⟨hTN, hW4⟩
          have HI := hideT (KEY.out x HF.out e hTN)
          obtain ⟨s, bb, rfl⟩ := hTN.form2
          clear hTN
          go_wp2
          go_ret2
          exact ⟨HI.out, hB2.trans (hW4.mono hB2.size)⟩
  | false =>
    have HI : Hid (FloorAns a (.returned (.tuple #[.string ⟨#[]⟩, .bool false]))) := .inr ⟨hok, rfl⟩
    clear hok hR
    go_wp2
    go_ret2
    exact ⟨HI.out, hW1⟩
end Go.Proofs.YtcdidibphaemoaaDoor
