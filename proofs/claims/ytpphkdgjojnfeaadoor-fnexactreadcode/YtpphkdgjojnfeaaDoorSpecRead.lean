/-
  What spec.l6Number and spec.ReadCode answer.
-/
import Derived.Test.YtpphkdgjojnfeaaDoorCodeRead
import Derived.Test.YtpphkdgjojnfeaaDoorSpecCode
import Derived.Test.YtpphkdgjojnfeaaDoorPkSpecSub
namespace Go.Proofs.YtpphkdgjojnfeaaDoor
open Go.RowKit
set_option linter.unusedVariables false

/-- What ReadCode answers. -/
def ReadC (s : List UInt8) (w : World) (e : Ending) (w' : World) : Prop :=
  (∃ (L : List Ins) (v : Value), Sol s L ∧ e = .returned (.tuple #[v, .bool true]) ∧ OwnR w' w.heap.size v 37 instrL 3 L) ∨ ((∀ L, ¬ Sol s L) ∧ e = .returned (.tuple #[.slice none 0 0, .bool false]))

theorem dv_int {c : UInt8} (h : isDig c = true) : IntKind.u8.wrap ((c.toNat : Int) - 48) = (dv c : Int) ∧ dv c < 10 := by
  unfold isDig at h
  simp only [Bool.and_eq_true, decide_eq_true_eq] at h
  have : IntKind.u8.wrap ((c.toNat : Int) - 48) = ((c.toNat : Int) - 48) % 256 := by simp [IntKind.wrap, IntKind.signed, IntKind.bits]
  unfold dv
  rw [this]
  omega

set_option maxHeartbeats 1000000 in
set_option maxRecDepth 100000 in
theorem l6Number_any (s : ByteArray) (w : World) (hs : s.size ≤ maxLen) :
    Calls Tryd.prog 22 #[.string s] w fun e w' => e = .returned (.int .i64 (numP s.data.toList)) ∧ w' = w := by
  unfold maxLen at hs
  have hlen : s.data.toList.length = s.size := by simp
  by_cases h6 : (6 : Int) < (s.size : Int)
  · have HN : Hid (numP s.data.toList = -1) := by unfold Hid numP; rw [if_neg (by rw [hlen]; omega)]
    clear hlen
    go_enter Tryd.func22, Tryd.ntmps22
    go_wp2
    go_ret
    exact ⟨by rw [HN.out]; rfl, rfl⟩
  have HC := hideT' (l1Digits_any s w (by unfold maxLen; omega))
  have h6' : s.size ≤ 6 := by omega
  have HLen := hideT' hlen
  clear hlen
  go_enter Tryd.func22, Tryd.ntmps22
  go_wp2_with fail
  refine HC.out.mono ?_
  rintro e w1 ⟨rfl, rfl⟩
  obtain ⟨q, hq⟩ : ∃ q, q = canonB s.data.toList := ⟨_, rfl⟩
  rw [← hq]
  have HQ := hideT' hq
  clear hq
  cases q with
  | false =>
    have HN : Hid (numP s.data.toList = -1) := by unfold Hid numP; rw [if_neg (by rw [← HQ.out]; simp)]
    go_wp2
    go_ret
    exact ⟨by rw [HN.out]; rfl, rfl⟩
  | true =>
    have HN : Hid (numP s.data.toList = (dval s.data.toList : Int)) := by unfold Hid numP; rw [if_pos ⟨by rw [HLen.out]; omega, HQ.out.symm⟩]
    have HA : Hid (s.data.toList.all isDig = true) := canon_all HQ.out.symm
    go_wp2_with fail
    go_loopg [3, 4] s.size (fun g n i wr => ∃ (k : Nat) (y : Int), g = s.size - k ∧ k ≤ s.size ∧ i = .int .i64 (k : Int) ∧ n = .int .i64 y ∧ 0 ≤ y ∧ y < 1000000 ∧ Hid (y = (dval (s.data.toList.take k) : Int)) ∧ wr = w1)
    case atStart => exact ⟨0, 0, rfl, by omega, rfl, rfl, by omega, by omega, by simp [Hid, dval], rfl⟩
    case round =>
      obtain ⟨k, y, hg, hk, rfl, rfl, hy0, hy1, HY, rfl⟩ := hrel
      by_cases hlt : (k : Int) < (s.size : Int)
      · have hk' : k < s.size := by omega
        have hdig : isDig s[k] = true := List.all_eq_true.1 HA.out s[k] (List.mem_of_getElem? (getN k hk'))
        obtain ⟨hd1, hd2⟩ := dv_int hdig
        have htk := take_val s k hk' HA.out
        have hlt2 : dval (s.data.toList.take (k + 1)) < 10 ^ 6 := by
          have h1 : (s.data.toList.take (k + 1)).all isDig = true := List.all_eq_true.2 fun x hx => List.all_eq_true.1 HA.out x (List.mem_of_mem_take hx)
          have h2 := dval_lt _ h1
          have h3 : (s.data.toList.take (k + 1)).length ≤ 6 := by rw [List.length_take]; omega
          exact Nat.lt_of_lt_of_le h2 (Nat.pow_le_pow_right (by omega) h3)
        obtain ⟨d, hd⟩ : ∃ d : Int, d = (dv s[k] : Int) := ⟨_, rfl⟩
        rw [← hd] at hd1
        have hd0 : 0 ≤ d := by omega
        have hd9 : d < 10 := by omega
        have hym : 10 * y + d < 1000000 := by have := HY.out; omega
        have HY2 : Hid (10 * y + d = (dval (s.data.toList.take (k + 1)) : Int)) := by have := HY.out; unfold Hid; omega
        have hw1 : IntKind.i64.wrap d = d := by rw [IntKind.wrap_i64]; omega
        clear hdig hd2 htk hlt2 hd
        go_wp2
        go_roundg (s.size - (k + 1))
        case measure => omega
        case rel => exact ⟨k + 1, 10 * y + d, rfl, by omega, by go_num, by go_num, by omega, hym, HY2, rfl⟩
      · have hkn : k = s.size := by omega
        have HY2 : Hid (y = (dval s.data.toList : Int)) := by
          unfold Hid
          rw [HY.out, List.take_of_length_le (by rw [HLen.out]; omega)]
        go_wp2
        go_ret
        exact ⟨by rw [HN.out, ← HY2.out]; rfl, rfl⟩

theorem ins3_cells (w : World) (d : Ins) : ∀ j u, (instrL d)[j]? = some u → (w.alloc (.cells (instrL d).toArray 37)).cell? ((⟨w.heap.size, 0, none⟩ : Addr).add j) = some u := fun j u h => by
  have e : (⟨w.heap.size, 0, none⟩ : Addr).add j = ⟨w.heap.size, j, none⟩ := by unfold Addr.add; split <;> simp_all
  rw [e, cell_of_row _ w.heap.size j _ 37 (0, 0) (heap_alloc_new _ _)]
  simpa using h

set_option maxHeartbeats 4000000 in
set_option maxRecDepth 100000 in
theorem specReadCode_any (s : ByteArray) (w : World) (hs : s.size ≤ 1048576) :
    Calls Tryd.prog 10 #[.string s] w fun e w' => ReadC s.data.toList w e w' ∧ Below w.heap.size w w' := by
  have hz := zero_instr.1
  obtain ⟨i0, hi, hz0, hz1, hz2⟩ := info_parts info_instr
  go_enter Tryd.func10, Tryd.ntmps10
  go_wp2_with fail
  go_loopg [4, 5] s.size (fun g v t wr => ∃ (l : List Ins) (r : ByteArray), g = r.size ∧ t = .string r ∧ r.size ≤ 1048576 ∧ l.length ≤ 3001 ∧ wr.ownsRow w.heap.size 37 3 v l.length (l.flatMap instrL) ∧ Hid (Ahead s.data.toList l r.data.toList ∧ Back s.data.toList l r.data.toList ∧ ∀ i, i < l.length → (l.getD i default).2.2.size ≤ 1048576) ∧ Below w.heap.size w wr)
  case atStart => exact ⟨[], s, rfl, rfl, hs, by simp, World.ownsRow_nil _ _ _ _, ⟨Ahead.start _, Back.start _, fun i hi => by simp at hi⟩, Below.refl _ _⟩
  case round =>
    obtain ⟨l, r, hg, rfl, hr, hl, hown, HA, hW⟩ := hrel
    have hrl : r.data.toList.length = r.size := by simp
    by_cases hr0 : r.size = 0
    · have hre : r.data.toList = [] := List.length_eq_zero_iff.1 (by omega)
      have hrn : r = ⟨#[]⟩ := ByteArray.ext (Array.ext' hre)
      subst hrn
      have HAn : Hid (Ahead s.data.toList l []) := HA.out.1
      have HBn : Hid (Back s.data.toList l []) := HA.out.2.1
      obtain ⟨o, cap, hvv⟩ : ∃ o cap, u4 = .slice o l.length cap := by
        rcases hown.2 with ⟨h1, h0⟩ | ⟨g, cap, cur, h1, _⟩
        · exact ⟨none, 0, by rw [h1, h0]⟩
        · exact ⟨_, _, h1⟩
      have HC := hideT' (specCodeText_any l u4 wr HA.out.2.2 (by omega) (OwnR.inR (l := l) hown instrL_len))
      subst hvv
      have HO := hideT' hown
      clear hown hre hrl hr0 hr
      go_wp2_with fail
      refine HC.out.mono ?_
      rintro e w2 ⟨hA, hB2⟩
      have hW2 := hW.trans (hB2.mono hW.size)
      have HO2 := hideT' (OwnR.below (l := l) HO.out hB2 (Nat.le_refl _))
      obtain ⟨q, hq⟩ : ∃ q, q = codeOk l := ⟨_, rfl⟩
      have HQ := hideT' hq
      unfold codeAns at hA
      rw [← hq] at hA
      clear hq hB2
      cases q with
      | true =>
        subst hA
        have HS : Hid (Sol s.data.toList l) := ⟨HQ.out.symm, by have := HBn.out (codeOk_parts HQ.out.symm).2; simpa using this⟩
        go_wp2
        go_ret2
        exact ⟨.inl ⟨l, _, HS.out, rfl, HO2.out⟩, hW2⟩
      | false =>
        subst hA
        have HS : Hid (∀ L, ¬ Sol s.data.toList L) := fun L hL => by
          have := HAn.out.done hL
          rw [this] at hL
          have h1 := hL.1
          rw [← HQ.out] at h1; cases h1
        go_wp2
        go_ret2
        exact ⟨.inr ⟨HS.out, rfl⟩, hW2⟩
    · have hrne : r.data.toList ≠ [] := fun e => hr0 (by rw [← hrl, e]; rfl)
      have HRN := hideT' hrne
      have hE : (r.toList == []) = false := by
        rw [ByteArray.toList_eq, beq_eq_false_iff_ne]; exact hrne
      have HC := hideT' (l2CutB_any 10 10 rfl r wr (by unfold maxLen; omega))
      have HRL := hideT' hrl
      have HOW := hideT' hown
      clear hrne hrl hown
      go_wp2_with fail
      refine HC.out.mono ?_
      rintro e w1 ⟨⟨t, m, rfl, ht, hm⟩, hB1⟩
      have hW1 := hW.trans (hB1.mono hW.size)
      have HO1 := hideT' (OwnR.below (l := l) HOW.out hB1 (Nat.le_refl _))
      have hz10 := cutB_size 10 r.data.toList
      have hts : t.size ≤ r.size := by rw [← ht, HRL.out] at hz10; simpa using hz10.1
      have hms : m.size ≤ r.size := by rw [← hm, HRL.out] at hz10; simpa using hz10.2
      have hml : m.size < r.size ∨ (cutB 10 r.data.toList).2.2 = false := by
        cases hq : (cutB 10 r.data.toList).2.2 with
        | false => exact .inr rfl
        | true =>
          have := congrArg List.length (cutB_back 10 r.data.toList hq)
          rw [List.length_append, List.length_cons, ← hm, HRL.out] at this
          have hmm : m.data.toList.length = m.size := by simp
          exact .inl (by omega)
      obtain ⟨q1, hq1⟩ : ∃ q, q = (cutB 10 r.data.toList).2.2 := ⟨_, rfl⟩
      rw [← hq1] at hml ⊢
      have HQ1 := hideT' hq1
      have HT := hideT' ht
      have HM := hideT' hm
      have HML := hideT' hml
      have HC2 := hideT' (l2CutB_any 32 32 rfl t w1 (by unfold maxLen; omega))
      clear hq1 ht hm hz10 hB1 HOW hml
      go_wp2_with fail
      refine HC2.out.mono ?_
      rintro e w2 ⟨⟨a, y, rfl, ha, hy⟩, hB2⟩
      have hW2 := hW1.trans (hB2.mono hW1.size)
      have HO2 := hideT' (OwnR.below (l := l) HO1.out hB2 (Nat.le_refl _))
      have hz32 := cutB_size 32 t.data.toList
      have htl : t.data.toList.length = t.size := by simp
      have has : a.size ≤ r.size := by rw [← ha, htl] at hz32; have h1 : a.data.toList.length = a.size := by simp
                                       omega
      have hys : y.size ≤ r.size := by rw [← hy, htl] at hz32; have h1 : y.data.toList.length = y.size := by simp
                                       omega
      obtain ⟨q2, hq2⟩ : ∃ q, q = (cutB 32 t.data.toList).2.2 := ⟨_, rfl⟩
      rw [← hq2]
      have HQ2 := hideT' hq2
      have HAA := hideT' ha
      have HY := hideT' hy
      have HC3 := hideT' (l2CutB_any 32 32 rfl y w2 (by unfold maxLen; omega))
      clear hq2 ha hy hz32 htl hB2 HO1
      go_wp2_with fail
      refine HC3.out.mono ?_
      rintro e w3 ⟨⟨b, c, rfl, hb, hc⟩, hB3⟩
      have hW3 := hW2.trans (hB3.mono hW2.size)
      have hown3 := OwnR.below (l := l) HO2.out hB3 (Nat.le_refl _)
      have hz32 := cutB_size 32 y.data.toList
      have hyl : y.data.toList.length = y.size := by simp
      have hbs : b.size ≤ r.size := by rw [← hb, hyl] at hz32; have h1 : b.data.toList.length = b.size := by simp
                                       omega
      have hcs : c.size ≤ r.size := by rw [← hc, hyl] at hz32; have h1 : c.data.toList.length = c.size := by simp
                                       omega
      obtain ⟨q3, hq3⟩ : ∃ q, q = (cutB 32 y.data.toList).2.2 := ⟨_, rfl⟩
      rw [← hq3]
      have HQ3 := hideT' hq3
      have HBB := hideT' hb
      have HCC := hideT' hc
      have HNO : Hid ((q1 = false ∨ q2 = false ∨ q3 = false ∨ 3000 ≤ l.length) → ∀ L, ¬ Sol s.data.toList L) := fun hq L hL => by
        obtain ⟨z1, z2, z3, z4⟩ := HA.out.1.line HRN.out hL
        rw [← HT.out, ← HQ2.out] at z2
        rw [← HT.out, ← HY.out, ← HQ3.out] at z3
        rw [← HQ1.out] at z1
        rcases hq with rfl | rfl | rfl | hq
        · cases z1
        · cases z2
        · cases z3
        · omega
      have HO3 := hideT' hown3
      obtain ⟨o, cap, hvv⟩ : ∃ o cap, u4 = .slice o l.length cap := by
        rcases hown3.2 with ⟨h1, h0⟩ | ⟨g, cap, cur, h1, _⟩
        · exact ⟨none, 0, by rw [h1, h0]⟩
        · exact ⟨_, _, h1⟩
      clear hq3 hb hc hz32 hyl hB3 HO2 hown3
      subst hvv
      cases q1 with
      | false =>
        have HS := hideT' (HNO.out (.inl rfl))
        go_wp2
        go_ret2
        exact ⟨.inr ⟨HS.out, rfl⟩, hW3⟩
      | true =>
      cases q2 with
      | false =>
        have HS := hideT' (HNO.out (.inr (.inl rfl)))
        go_wp2
        go_ret2
        exact ⟨.inr ⟨HS.out, rfl⟩, hW3⟩
      | true =>
      cases q3 with
      | false =>
        have HS := hideT' (HNO.out (.inr (.inr (.inl rfl))))
        go_wp2
        go_ret2
        exact ⟨.inr ⟨HS.out, rfl⟩, hW3⟩
      | true =>
      by_cases hl3 : (3000 : Int) < (l.length : Int)
      · have HS := hideT' (HNO.out (.inr (.inr (.inr (by omega)))))
        go_wp2
        go_ret2
        exact ⟨.inr ⟨HS.out, rfl⟩, hW3⟩
      have hl3' : l.length ≤ 3000 := by omega
      obtain ⟨x, hx⟩ : ∃ x : Ins, x = (numP a.data.toList, numP b.data.toList, c) := ⟨_, rfl⟩
      have HXX := hideT' hx
      have HAX : Hid (Ahead s.data.toList (l ++ [x]) m.data.toList) := by
        have := HA.out.1.parse HRN.out c (by rw [HCC.out, HY.out, HT.out])
        unfold Hid
        rw [hx, HAA.out, HBB.out, HY.out, HT.out, HM.out]
        exact this
      have HBX : Hid (Back s.data.toList (l ++ [x]) m.data.toList) := by
        have := HA.out.2.1.parse c (by rw [HCC.out, HY.out, HT.out]) HQ1.out.symm (by rw [← HT.out]; exact HQ2.out.symm) (by rw [← HT.out, ← HY.out]; exact HQ3.out.symm)
        unfold Hid
        rw [hx, HAA.out, HBB.out, HY.out, HT.out, HM.out]
        exact this
      have HC4 := hideT' (l6Number_any a w3 (by unfold maxLen; omega))
      have HC5 := hideT' (l6Number_any b w3 (by unfold maxLen; omega))
      clear hx
      go_wp2_with fail
      refine HC4.out.mono ?_
      rintro e w4 ⟨rfl, rfl⟩
      go_wp2_with fail
      refine HC5.out.mono ?_
      rintro e w5 ⟨rfl, rfl⟩
      have hs3 := hW3.size
      go_wp2_with (first | (at_builtin; refine wpList_append_own _ rfl _ _ 26 rfl w.heap.size 37 i0 (.agg #[.int .i64 0, .int .i64 0, .string ⟨#[]⟩]) 3 32 Tryd.underlying26 hi hz0 hz1 hz2 rfl (by decide) (.slice o l.length cap) _ _ rfl (HO3.out.alloc _) ⟨w5.heap.size, 0, none⟩ 1 1 (instrL (numP a.data.toList, numP b.data.toList, c)) rfl rfl (ins3_cells w5 (numP a.data.toList, numP b.data.toList, c)) (instrL_one _) (by unfold maxLen; omega) (by omega) (by simp; omega) ?_; intro v2 w6 hv2 hg2 _))
      go_roundg m.size
      case measure =>
        have := HML.out
        rcases this with h | h
        · omega
        · cases h
      case rel =>
        have hW6 : Below w.heap.size w w6 := (hW3.alloc hs3 (.cells (instrL (numP a.data.toList, numP b.data.toList, c)).toArray 37)).grown hg2 (by simp; omega) (fun k hk => (HO3.out.lt k hk).1)
        refine ⟨l ++ [x], m, rfl, rfl, by omega, by simp; omega, ?_, ⟨HAX.out, HBX.out, fun i hi => ?_⟩, hW6⟩
        · rw [HXX.out]
          simpa using hv2
        · rw [List.length_append, List.length_singleton] at hi
          by_cases e : i = l.length
          · subst e
            rw [HXX.out]
            simp [List.getD]
            omega
          · have : (l ++ [x]).getD i default = l.getD i default := by
              simp only [List.getD]
              rw [List.getElem?_append_left (by omega)]
            rw [this]
            exact HA.out.2.2 i (by omega)
end Go.Proofs.YtpphkdgjojnfeaaDoor
