/-
  What spec.l1Div and spec.DivNat answer.
-/
import Derived.Test.YtjgpjafndaikcaaDoorSpecSub
import Derived.Test.YtjgpjafndaikcaaDoorSpecText
import Derived.Test.YtjgpjafndaikcaaDoorStr
namespace Go.Proofs.YtjgpjafndaikcaaDoor
open Go.RowKit
set_option linter.unusedVariables false

/-- The digits of a quotient so far: none for 0. -/
def QD (l : List UInt8) (Q : Nat) : Prop := (l = [] ∧ Q = 0) ∨ (canonB l = true ∧ dval l = Q ∧ Q ≠ 0)

theorem QD.step {l : List UInt8} {Q n : Nat} (h : QD l Q) (hn : n < 10) (hc : l ≠ [] ∨ n ≠ 0) : QD (l ++ [UInt8.ofNat (48 + n)]) (10 * Q + n) := by
  obtain ⟨d1, d2⟩ := dig_ofNat n hn
  rcases h with ⟨rfl, rfl⟩ | ⟨h1, h2, h3⟩
  · have hn0 : n ≠ 0 := by rcases hc with h | h; exact absurd rfl h; exact h
    refine .inr ⟨?_, ?_, by omega⟩
    · simp only [List.nil_append, canonB, List.all_cons, List.all_nil, d1]; simp
    · rw [dval_snoc, d2]; simp [dval]
  · refine .inr ⟨canon_append h1 (by rw [h2]; exact h3) (by rw [List.all_cons, d1]; rfl), ?_, by omega⟩
    rw [dval_snoc, d2, h2]

theorem div_step {N B Q R d n s X : Nat} (hQ : Q = N / B) (hR : R = N % B) (hB : B ≠ 0) (hX : X = 10 * R + d) (hn : s + n * B = X) (hs : s < B) : 10 * Q + n = (10 * N + d) / B ∧ s = (10 * N + d) % B := by
  have h1 := Nat.div_add_mod N B
  rw [← hQ, ← hR] at h1
  have h2 : 10 * N + d = B * (10 * Q + n) + s := by
    rw [Nat.mul_add, Nat.mul_left_comm, Nat.mul_comm B n]; omega
  rw [h2, Nat.mul_add_div (by omega), Nat.div_eq_of_lt hs, Nat.mul_add_mod, Nat.mod_eq_of_lt hs]
  exact ⟨by omega, rfl⟩

theorem div_bd {R B d n s X : Nat} (hR : R < B) (hd : d < 10) (hX : X = 10 * R + d) (hn : s + n * B = X) : n < 10 := by
  by_cases h : n < 10
  · exact h
  · have := Nat.mul_le_mul_right B (show 10 ≤ n by omega)
    omega

theorem cmp_sign (x y : Nat) : (y ≤ x → 0 ≤ cmpI (x : Int) (y : Int)) ∧ (¬ y ≤ x → cmpI (x : Int) (y : Int) < 0) := by
  constructor
  · intro h; unfold cmpI; split
    · omega
    · split <;> omega
  · intro h; rw [cmpI_lt (by omega)]; omega

theorem own_form8 {w : World} {B e n : Nat} {v : Value} {xs : List Value} (h : w.ownsRow B e 1 v n xs) : ∃ o cap, v = .slice o n cap := by
  rcases h.2 with ⟨rfl, rfl⟩ | ⟨g, cap, cur, rfl, _⟩
  · exact ⟨none, 0, rfl⟩
  · exact ⟨_, _, rfl⟩

theorem own_conv {w : World} {B n : Nat} {v : Value} {l : List UInt8} (h : w.ownsRow B 5 1 v n (Lib.byteCells l)) (hn : n = l.length) (h0 : n ≠ 0) : (convert 75 9 v).run Tryd.prog w = .ok (.string ⟨l.toArray⟩) w := by
  subst hn
  rcases h.2 with ⟨_, h⟩ | ⟨g, cap, cur, rfl, hg, hh, hc, _, hsz, ht⟩
  · exact absurd h h0
  · refine run_convert_bytes_back (P := Tryd.prog) w 75 9 5 ⟨g, 0, none⟩ cap l Tryd.underlying75 Tryd.underlying5 Tryd.underlying9 (fun j hj => ?_)
    have e : (⟨g, 0, none⟩ : Addr).add j = ⟨g, j, none⟩ := by unfold Addr.add; split <;> simp_all
    rw [e, cell_of_row w g j _ _ _ hh]
    have h2 : (cur.toList.take (l.length * 1))[j]? = some (.int .u8 (l[j].toNat : Int)) := by
      rw [ht]; simp [Lib.byteCells, List.getElem?_eq_getElem hj]
    rw [List.getElem?_take_of_lt (by omega)] at h2
    simpa using h2

theorem dig_at (a : ByteArray) (i : Nat) (h : i < a.size) (ha : a.data.toList.all isDig = true) : dv a[i] < 10 :=
  dv_lt (List.all_eq_true.1 ha (a.data.toList[i]'(by simpa using h)) (List.getElem_mem _))

theorem ext_list (a : ByteArray) (i : Nat) (h : i < a.size) : (a.extract i (i + 1)).data.toList = [a[i]] := by
  have h' : i < a.data.toList.length := by simpa using h
  rw [ByteArray.data_extract, Array.toList_extract, List.extract_eq_take_drop, show i + 1 - i = 1 by omega, List.drop_eq_getElem_cons h']
  rfl

theorem ext_one (a : ByteArray) (i : Nat) (h : i < a.size) (ha : a.data.toList.all isDig = true) : canonB (a.extract i (i + 1)).data.toList = true ∧ dval (a.extract i (i + 1)).data.toList = 10 * 0 + dv a[i] := by
  have hd : isDig a[i] = true := List.all_eq_true.1 ha (a.data.toList[i]'(by simpa using h)) (List.getElem_mem _)
  rw [ext_list a i h]
  exact ⟨by simp [canonB, hd], by simp [dval]⟩

theorem app_one (t a : ByteArray) (i : Nat) (h : i < a.size) (ha : a.data.toList.all isDig = true) (ht : canonB t.data.toList = true) (h0 : dval t.data.toList ≠ 0) : canonB (t ++ a.extract i (i + 1)).data.toList = true ∧ dval (t ++ a.extract i (i + 1)).data.toList = 10 * dval t.data.toList + dv a[i] := by
  have hd : isDig a[i] = true := List.all_eq_true.1 ha (a.data.toList[i]'(by simpa using h)) (List.getElem_mem _)
  have e : (t ++ a.extract i (i + 1)).data.toList = t.data.toList ++ [a[i]] := by
    rw [ByteArray.data_append, Array.toList_append, ext_list a i h]
  rw [e, dval_snoc]
  exact ⟨canon_append ht h0 (by rw [List.all_cons, hd]; rfl), rfl⟩

theorem take_val (a : ByteArray) (i : Nat) (h : i < a.size) (ha : a.data.toList.all isDig = true) : dval (a.data.toList.take (i + 1)) = 10 * dval (a.data.toList.take i) + dv a[i] := by
  rw [take_snoc a i h, dval_snoc]

theorem bc_snoc (l : List UInt8) (m : Nat) (hm : m < 10) : Lib.byteCells (l ++ [UInt8.ofNat (48 + m)]) = Lib.byteCells l ++ [.int .u8 (48 + (m : Int))] := by
  have e : (UInt8.ofNat (48 + m)).toNat = 48 + m := by rw [UInt8.toNat_ofNat']; omega
  unfold Lib.byteCells
  rw [List.map_append]
  congr 1
  simp only [List.map_cons, List.map_nil, e]
  rfl

theorem one_byte (v : Int) : ∀ u ∈ [Value.int .u8 v], u.oneCell' = true := by
  intro u hu; simp at hu; subst hu; rfl

set_option maxHeartbeats 1000000 in
set_option maxRecDepth 100000 in
theorem l1Div_any (a b : ByteArray) (w : World) (hsa : a.size ≤ 2000) (hsb : b.size ≤ 2000) (ha : canonB a.data.toList = true) (hb : canonB b.data.toList = true) (hb0 : dval b.data.toList ≠ 0) :
    Calls Tryd.prog 36 #[.string a, .string b] w fun e w' => ∃ s t : ByteArray, e = .returned (.tuple #[.string s, .string t]) ∧ canonB s.data.toList = true ∧ dval s.data.toList = dval a.data.toList / dval b.data.toList ∧ canonB t.data.toList = true ∧ dval t.data.toList = dval a.data.toList % dval b.data.toList ∧ Below w.heap.size w w' := by
  obtain ⟨i0, hi, hz0, hz1, hz2⟩ := u8_info
  have HA := hideT (canon_all ha)
  have HB := hideT hb
  have HB0 := hideT hb0
  have HL : Hid (a.data.toList.length = a.size) := by unfold Hid; simp
  clear ha hb hb0
  go_enter Tryd.func36, Tryd.ntmps36
  go_wp2
  go_loopg [6, 7, 8] a.size (fun g v r x wr => ∃ (i : Nat) (t : ByteArray) (l : List UInt8), g = a.size - i ∧ i ≤ a.size ∧ x = .int .i64 (i : Int) ∧ r = .string t ∧ Hid (canonB t.data.toList = true ∧ dval t.data.toList = dval (a.data.toList.take i) % dval b.data.toList) ∧ Hid (QD l (dval (a.data.toList.take i) / dval b.data.toList)) ∧ l.length ≤ i ∧ t.size ≤ 2000 ∧ wr.ownsRow w.heap.size 5 1 v l.length (Lib.byteCells l) ∧ Below w.heap.size w wr)
  case atStart => exact ⟨0, ⟨#[48]⟩, [], rfl, by omega, rfl, rfl, ⟨by decide, by simp [dval, dv]⟩, .inl ⟨rfl, by simp [dval]⟩, by simp, by decide, World.ownsRow_nil _ _ _ _, Below.refl _ _⟩
  case round =>
    obtain ⟨i, t, l, rfl, hia, rfl, rfl, HT, HQ, hli, hts, hown, hW⟩ := hrel
    obtain ⟨o, cap, rfl⟩ := own_form8 hown
    obtain ⟨ln, hln⟩ : ∃ ln, ln = l.length := ⟨_, rfl⟩
    rw [← hln] at hown ⊢
    have HLN := hideT hln
    have hln2 : ln ≤ i := by omega
    clear hln hli
    by_cases hlt : (i : Int) < (a.size : Int)
    · have hia' : i < a.size := by omega
      have HTB : Hid (dval (a.data.toList.take i) % dval b.data.toList < dval b.data.toList) := Nat.mod_lt _ (Nat.pos_of_ne_zero HB0.out)
      have HD10 : Hid (dv a[i] < 10) := dig_at a i hia' HA.out
      by_cases hz : t = ⟨#[48]⟩
      · have HR1 : Hid (canonB (a.extract i (i + 1)).data.toList = true ∧ dval (a.extract i (i + 1)).data.toList = 10 * (dval (a.data.toList.take i) % dval b.data.toList) + dv a[i]) := by
          have h0 : dval t.data.toList = 0 := by rw [hz]; decide
          unfold Hid
          rw [← HT.out.2, h0]
          exact ext_one a i hia' HA.out
        have hr1s : (a.extract i (i + 1)).size ≤ 2001 := by simp; omega
        subst hz
        go_wp2
        generalize a.extract i (i + 1) = r1 at HR1 hr1s ⊢
        go_loopg [7, 9] (dval r1.data.toList) (fun gh r n wq => ∃ (m : Nat) (s : ByteArray), Hid (gh = dval s.data.toList) ∧ r = .string s ∧ n = .int .i64 (m : Int) ∧ Hid (canonB s.data.toList = true ∧ dval s.data.toList + m * dval b.data.toList = dval r1.data.toList) ∧ s.size ≤ 2001 ∧ m < 10 ∧ wq.ownsRow w.heap.size 5 1 (.slice o ln cap) ln (Lib.byteCells l) ∧ Below w.heap.size w wq)
        case atStart => exact ⟨0, r1, rfl, rfl, rfl, ⟨HR1.out.1, by omega⟩, hr1s, by omega, hown, hW⟩
        case round =>
          obtain ⟨m, s, HG, rfl, rfl, HS, hss, hm, hownq, hWq⟩ := hrel
          clear hown hW
          have hc := cmp_sign (dval s.data.toList) (dval b.data.toList)
          have hm2 : (m : Int) < 10 := by omega
          by_cases hge : dval b.data.toList ≤ dval s.data.toList
          · have hc1 := hc.1 hge
            have HGE := hideT hge
            clear hc hge
            go_wp2_with fail
            refine (l1Compare_any s b _ (by unfold maxLen; omega) (by unfold maxLen; omega) HS.out.1 HB.out).mono ?_
            rintro e w' ⟨rfl, rfl⟩
            generalize cmpI (dval s.data.toList : Int) (dval b.data.toList : Int) = z at hc1 ⊢
            go_wp2_with fail
            refine (l1Sub_any s b _ (by omega) (by omega) HS.out.1 HB.out HGE.out).mono ?_
            rintro e w2 ⟨s2, rfl, hc2, hv2, hW2⟩
            have hB1 : 0 < dval b.data.toList := Nat.pos_of_ne_zero HB0.out
            have hlt2 : dval s2.data.toList < dval s.data.toList := by have := HGE.out; omega
            have hmul : (m + 1) * dval b.data.toList = m * dval b.data.toList + dval b.data.toList := Nat.succ_mul _ _
            have HS2 : Hid (canonB s2.data.toList = true ∧ dval s2.data.toList + (m + 1) * dval b.data.toList = dval r1.data.toList) := ⟨hc2, by have := HS.out.2; have := HGE.out; omega⟩
            have hm1 : m + 1 < 10 := div_bd HTB.out HD10.out HR1.out.2 HS2.out.2
            have hs2s : s2.size ≤ 2001 := by have := canon_le_size HS.out.1 hc2 (by omega); omega
            have HLT := hideT hlt2
            have hWs := hWq.size
            have hown2 := hownq.kept (below_grown hW2) (Classical.em _)
            have hW2' : Below w.heap.size w w2 := hWq.trans (hW2.mono hWs)
            clear hlt2 hmul hc2 hv2 hB1 hownq hWq hW2
            go_wp2
            go_roundg (dval s2.data.toList)
            case measure => rw [HG.out]; exact HLT.out
            case rel => exact ⟨m + 1, s2, rfl, rfl, by go_num, HS2, hs2s, hm1, hown2, hW2'⟩
          · have hc1 := hc.2 hge
            have HE := hideT (div_step (Q := dval (a.data.toList.take i) / dval b.data.toList) (s := dval s.data.toList) (n := m) rfl rfl HB0.out HR1.out.2 HS.out.2 (by omega))
            have HS' : Hid (canonB s.data.toList = true) := HS.out.1
            have hss2 : s.size ≤ 2000 := by have := canon_le_size HB.out HS.out.1 (by omega); omega
            have HST := hideT (take_val a i hia' HA.out)
            have hWs := hWq.size
            clear hc hge HS HG
            go_wp2_with fail
            refine (l1Compare_any s b _ (by unfold maxLen; omega) (by unfold maxLen; omega) HS'.out HB.out).mono ?_
            rintro e w' ⟨rfl, rfl⟩
            generalize cmpI (dval s.data.toList : Int) (dval b.data.toList : Int) = z at hc1 ⊢
            by_cases h1 : 0 < (ln : Int) ∨ 0 < (m : Int)
            · have hne : Hid (l ≠ [] ∨ m ≠ 0) := by
                unfold Hid
                rcases h1 with h | h
                · left; intro e; have := HLN.out; rw [e] at this; simp at this; omega
                · right; omega
              have HQ' := hideT (HQ.out.step hm hne.out)
              have hcell : Lib.byteCells (l ++ [UInt8.ofNat (48 + m)]) = Lib.byteCells l ++ [.int .u8 (48 + (m : Int))] := bc_snoc l m hm
              have HCELL := hideT hcell
              clear hcell hne
              by_cases h2 : 0 < (ln : Int)
              · clear h1
                go_wp2_with (first | (at_builtin; refine wpList_append_own _ rfl _ _ 75 rfl w.heap.size 5 i0 (.int .u8 0) 1 1 Tryd.underlying75 hi hz0 hz1 hz2 rfl (by decide) _ _ _ rfl (hownq.alloc _) ⟨w'.heap.size, 0, none⟩ 1 1 [.int .u8 (48 + (m : Int))] rfl rfl (cell_one_new _ _ _) (one_byte _) (by unfold maxLen; omega) (by omega) (by simp; omega) ?_; intro v' w1 hown' hgrow _))
                go_roundg (a.size - (i + 1))
                case measure => omega
                case rel =>
                  obtain ⟨e1, e2⟩ := HE.out
                  rw [← HST.out] at e1 e2
                  have HQ2 := HQ'.out
                  rw [e1] at HQ2
                  refine ⟨i + 1, s, l ++ [UInt8.ofNat (48 + m)], rfl, by omega, by go_num, rfl, ⟨HS'.out, e2⟩, HQ2, by rw [List.length_append, ← HLN.out]; first | (simp; done) | (simp; omega), hss2, ?_, ?_⟩
                  · rw [HCELL.out]
                    rw [List.length_append, ← HLN.out]; exact hown'
                  · refine Below.grown (hWq.alloc hWs _) hgrow (by simp; omega) ?_
                    intro k hk; exact own_ge hownq hk
              · have h3 : 0 < (m : Int) := by omega
                obtain rfl : ln = 0 := by omega
                clear h1
                go_wp2_with (first | (at_builtin; refine wpList_append_own _ rfl _ _ 75 rfl w.heap.size 5 i0 (.int .u8 0) 1 1 Tryd.underlying75 hi hz0 hz1 hz2 rfl (by decide) _ _ _ rfl (hownq.alloc _) ⟨w'.heap.size, 0, none⟩ 1 1 [.int .u8 (48 + (m : Int))] rfl rfl (cell_one_new _ _ _) (one_byte _) (by unfold maxLen; omega) (by omega) (by simp; omega) ?_; intro v' w1 hown' hgrow _))
                go_roundg (a.size - (i + 1))
                case measure => omega
                case rel =>
                  obtain ⟨e1, e2⟩ := HE.out
                  rw [← HST.out] at e1 e2
                  have HQ2 := HQ'.out
                  rw [e1] at HQ2
                  refine ⟨i + 1, s, l ++ [UInt8.ofNat (48 + m)], rfl, by omega, by go_num, rfl, ⟨HS'.out, e2⟩, HQ2, by rw [List.length_append, ← HLN.out]; first | (simp; done) | (simp; omega), hss2, ?_, ?_⟩
                  · rw [HCELL.out]
                    rw [List.length_append, ← HLN.out]; exact hown'
                  · refine Below.grown (hWq.alloc hWs _) hgrow (by simp; omega) ?_
                    intro k hk; exact own_ge hownq hk
            · obtain rfl : ln = 0 := by omega
              have h3 : ¬ 0 < (m : Int) := by omega
              have hm0 : m = 0 := by omega
              have hl0 : l = [] := by have := HLN.out; exact List.length_eq_zero_iff.1 (by omega)
              clear h1
              go_wp2
              go_roundg (a.size - (i + 1))
              case measure => omega
              case rel =>
                obtain ⟨e1, e2⟩ := HE.out
                rw [← HST.out] at e1 e2
                refine ⟨i + 1, s, l, rfl, by omega, by go_num, rfl, ⟨HS'.out, e2⟩, ?_, by rw [← HLN.out]; omega, hss2, by rw [← HLN.out]; exact hownq, hWq⟩
                subst hl0
                rcases HQ.out with ⟨_, h⟩ | ⟨h, _⟩
                · exact .inl ⟨rfl, by omega⟩
                · simp [canonB] at h
      · have hz' : (t.toList == [48]) = false := str_ne (fun h => hz (WideShapes.bytes_inj h))
        have HR1 : Hid (canonB (t ++ a.extract i (i + 1)).data.toList = true ∧ dval (t ++ a.extract i (i + 1)).data.toList = 10 * (dval (a.data.toList.take i) % dval b.data.toList) + dv a[i]) := by
          have h0 : dval t.data.toList ≠ 0 := fun e => hz (WideShapes.bytes_inj ((canon_zero HT.out.1).1 e))
          unfold Hid
          rw [← HT.out.2]
          exact app_one t a i hia' HA.out HT.out.1 h0
        have hr1s : (t ++ a.extract i (i + 1)).size ≤ 2001 := by simp; omega
        clear hz
        go_wp2
        generalize t ++ a.extract i (i + 1) = r1 at HR1 hr1s ⊢
        go_loopg [7, 9] (dval r1.data.toList) (fun gh r n wq => ∃ (m : Nat) (s : ByteArray), Hid (gh = dval s.data.toList) ∧ r = .string s ∧ n = .int .i64 (m : Int) ∧ Hid (canonB s.data.toList = true ∧ dval s.data.toList + m * dval b.data.toList = dval r1.data.toList) ∧ s.size ≤ 2001 ∧ m < 10 ∧ wq.ownsRow w.heap.size 5 1 (.slice o ln cap) ln (Lib.byteCells l) ∧ Below w.heap.size w wq)
        case atStart => exact ⟨0, r1, rfl, rfl, rfl, ⟨HR1.out.1, by omega⟩, hr1s, by omega, hown, hW⟩
        case round =>
          obtain ⟨m, s, HG, rfl, rfl, HS, hss, hm, hownq, hWq⟩ := hrel
          clear hown hW
          have hc := cmp_sign (dval s.data.toList) (dval b.data.toList)
          have hm2 : (m : Int) < 10 := by omega
          by_cases hge : dval b.data.toList ≤ dval s.data.toList
          · have hc1 := hc.1 hge
            have HGE := hideT hge
            clear hc hge
            go_wp2_with fail
            refine (l1Compare_any s b _ (by unfold maxLen; omega) (by unfold maxLen; omega) HS.out.1 HB.out).mono ?_
            rintro e w' ⟨rfl, rfl⟩
            generalize cmpI (dval s.data.toList : Int) (dval b.data.toList : Int) = z at hc1 ⊢
            go_wp2_with fail
            refine (l1Sub_any s b _ (by omega) (by omega) HS.out.1 HB.out HGE.out).mono ?_
            rintro e w2 ⟨s2, rfl, hc2, hv2, hW2⟩
            have hB1 : 0 < dval b.data.toList := Nat.pos_of_ne_zero HB0.out
            have hlt2 : dval s2.data.toList < dval s.data.toList := by have := HGE.out; omega
            have hmul : (m + 1) * dval b.data.toList = m * dval b.data.toList + dval b.data.toList := Nat.succ_mul _ _
            have HS2 : Hid (canonB s2.data.toList = true ∧ dval s2.data.toList + (m + 1) * dval b.data.toList = dval r1.data.toList) := ⟨hc2, by have := HS.out.2; have := HGE.out; omega⟩
            have hm1 : m + 1 < 10 := div_bd HTB.out HD10.out HR1.out.2 HS2.out.2
            have hs2s : s2.size ≤ 2001 := by have := canon_le_size HS.out.1 hc2 (by omega); omega
            have HLT := hideT hlt2
            have hWs := hWq.size
            have hown2 := hownq.kept (below_grown hW2) (Classical.em _)
            have hW2' : Below w.heap.size w w2 := hWq.trans (hW2.mono hWs)
            clear hlt2 hmul hc2 hv2 hB1 hownq hWq hW2
            go_wp2
            go_roundg (dval s2.data.toList)
            case measure => rw [HG.out]; exact HLT.out
            case rel => exact ⟨m + 1, s2, rfl, rfl, by go_num, HS2, hs2s, hm1, hown2, hW2'⟩
          · have hc1 := hc.2 hge
            have HE := hideT (div_step (Q := dval (a.data.toList.take i) / dval b.data.toList) (s := dval s.data.toList) (n := m) rfl rfl HB0.out HR1.out.2 HS.out.2 (by omega))
            have HS' : Hid (canonB s.data.toList = true) := HS.out.1
            have hss2 : s.size ≤ 2000 := by have := canon_le_size HB.out HS.out.1 (by omega); omega
            have HST := hideT (take_val a i hia' HA.out)
            have hWs := hWq.size
            clear hc hge HS HG
            go_wp2_with fail
            refine (l1Compare_any s b _ (by unfold maxLen; omega) (by unfold maxLen; omega) HS'.out HB.out).mono ?_
            rintro e w' ⟨rfl, rfl⟩
            generalize cmpI (dval s.data.toList : Int) (dval b.data.toList : Int) = z at hc1 ⊢
            by_cases h1 : 0 < (ln : Int) ∨ 0 < (m : Int)
            · have hne : Hid (l ≠ [] ∨ m ≠ 0) := by
                unfold Hid
                rcases h1 with h | h
                · left; intro e; have := HLN.out; rw [e] at this; simp at this; omega
                · right; omega
              have HQ' := hideT (HQ.out.step hm hne.out)
              have hcell : Lib.byteCells (l ++ [UInt8.ofNat (48 + m)]) = Lib.byteCells l ++ [.int .u8 (48 + (m : Int))] := bc_snoc l m hm
              have HCELL := hideT hcell
              clear hcell hne
              by_cases h2 : 0 < (ln : Int)
              · clear h1
                go_wp2_with (first | (at_builtin; refine wpList_append_own _ rfl _ _ 75 rfl w.heap.size 5 i0 (.int .u8 0) 1 1 Tryd.underlying75 hi hz0 hz1 hz2 rfl (by decide) _ _ _ rfl (hownq.alloc _) ⟨w'.heap.size, 0, none⟩ 1 1 [.int .u8 (48 + (m : Int))] rfl rfl (cell_one_new _ _ _) (one_byte _) (by unfold maxLen; omega) (by omega) (by simp; omega) ?_; intro v' w1 hown' hgrow _))
                go_roundg (a.size - (i + 1))
                case measure => omega
                case rel =>
                  obtain ⟨e1, e2⟩ := HE.out
                  rw [← HST.out] at e1 e2
                  have HQ2 := HQ'.out
                  rw [e1] at HQ2
                  refine ⟨i + 1, s, l ++ [UInt8.ofNat (48 + m)], rfl, by omega, by go_num, rfl, ⟨HS'.out, e2⟩, HQ2, by rw [List.length_append, ← HLN.out]; first | (simp; done) | (simp; omega), hss2, ?_, ?_⟩
                  · rw [HCELL.out]
                    rw [List.length_append, ← HLN.out]; exact hown'
                  · refine Below.grown (hWq.alloc hWs _) hgrow (by simp; omega) ?_
                    intro k hk; exact own_ge hownq hk
              · have h3 : 0 < (m : Int) := by omega
                obtain rfl : ln = 0 := by omega
                clear h1
                go_wp2_with (first | (at_builtin; refine wpList_append_own _ rfl _ _ 75 rfl w.heap.size 5 i0 (.int .u8 0) 1 1 Tryd.underlying75 hi hz0 hz1 hz2 rfl (by decide) _ _ _ rfl (hownq.alloc _) ⟨w'.heap.size, 0, none⟩ 1 1 [.int .u8 (48 + (m : Int))] rfl rfl (cell_one_new _ _ _) (one_byte _) (by unfold maxLen; omega) (by omega) (by simp; omega) ?_; intro v' w1 hown' hgrow _))
                go_roundg (a.size - (i + 1))
                case measure => omega
                case rel =>
                  obtain ⟨e1, e2⟩ := HE.out
                  rw [← HST.out] at e1 e2
                  have HQ2 := HQ'.out
                  rw [e1] at HQ2
                  refine ⟨i + 1, s, l ++ [UInt8.ofNat (48 + m)], rfl, by omega, by go_num, rfl, ⟨HS'.out, e2⟩, HQ2, by rw [List.length_append, ← HLN.out]; first | (simp; done) | (simp; omega), hss2, ?_, ?_⟩
                  · rw [HCELL.out]
                    rw [List.length_append, ← HLN.out]; exact hown'
                  · refine Below.grown (hWq.alloc hWs _) hgrow (by simp; omega) ?_
                    intro k hk; exact own_ge hownq hk
            · obtain rfl : ln = 0 := by omega
              have h3 : ¬ 0 < (m : Int) := by omega
              have hm0 : m = 0 := by omega
              have hl0 : l = [] := by have := HLN.out; exact List.length_eq_zero_iff.1 (by omega)
              clear h1
              go_wp2
              go_roundg (a.size - (i + 1))
              case measure => omega
              case rel =>
                obtain ⟨e1, e2⟩ := HE.out
                rw [← HST.out] at e1 e2
                refine ⟨i + 1, s, l, rfl, by omega, by go_num, rfl, ⟨HS'.out, e2⟩, ?_, by rw [← HLN.out]; omega, hss2, by rw [← HLN.out]; exact hownq, hWq⟩
                subst hl0
                rcases HQ.out with ⟨_, h⟩ | ⟨h, _⟩
                · exact .inl ⟨rfl, by omega⟩
                · simp [canonB] at h
    · have hi' : i = a.size := by omega
      have hfin : a.data.toList.take i = a.data.toList := by rw [hi', ← HL.out]; exact List.take_length
      rw [hfin] at HT HQ
      clear hi' hfin
      by_cases h0 : ln = 0
      · have hl0 : l = [] := List.length_eq_zero_iff.1 (by rw [← HLN.out]; exact h0)
        have hq0 : Hid (dval a.data.toList / dval b.data.toList = 0) := by
          unfold Hid
          rcases HQ.out with ⟨_, h⟩ | ⟨h, _⟩
          · exact h
          · rw [hl0] at h; simp [canonB] at h
        subst h0
        go_wp2
        go_ret2
        exact ⟨⟨#[48]⟩, t, rfl, by decide, by rw [hq0.out]; decide, HT.out.1, HT.out.2, hW⟩
      · have h0' : ((ln : Int) == 0) = false := by rw [beq_eq_false_iff_ne]; omega
        have hcv := own_conv hown (by rw [← HLN.out]) h0
        have hq1 : Hid (canonB l = true ∧ dval l = dval a.data.toList / dval b.data.toList) := by
          unfold Hid
          rcases HQ.out with ⟨h, _⟩ | ⟨h1, h2, _⟩
          · have := HLN.out; rw [h] at this; exact absurd this h0
          · exact ⟨h1, h2⟩
        go_wp2
        go_ret2
        exact ⟨⟨l.toArray⟩, t, rfl, by simpa using hq1.out.1, by simpa using hq1.out.2, HT.out.1, HT.out.2, hW⟩
end Go.Proofs.YtjgpjafndaikcaaDoor
