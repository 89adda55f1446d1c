/-
  The texts CbSpecGoodT, CbSpecTold, CbTold, Meth, ImplIsGood, ImplTell, LcMem, SpecTree, SpecGoodT, one behind the other, as one.
-/
import Derived.Test.YtgolfbjfopoeeaaDoorTailReadCombA
import Derived.Deep.LoopGhost
import Derived.Deep.CutBlock
import Derived.Deep.DeepCutAuto
import Derived.Test.YtgolfbjfopoeeaaDoorTermImpl
import Derived.Test.YtgolfbjfopoeeaaDoorRangeRet
import Derived.Test.YtgolfbjfopoeeaaDoorImplRed
import Derived.Maps.OwnIn
import Derived.Test.YtgolfbjfopoeeaaDoorWalkT
import Derived.Test.YtgolfbjfopoeeaaDoorSpecParts

/-
  What spec.GoodTerm answers.
-/
namespace Go.Proofs.YtgolfbjfopoeeaaDoor.CB
open Go.RowKit BL
set_option linter.unusedVariables false

theorem goodS_bad {l : List Nd} {k : Nat} (hk : k < l.length) (h : nodeOk l k = false) : goodS l = false := by
  unfold goodS
  rw [Bool.and_eq_false_iff]
  refine .inr ?_
  rw [List.all_eq_false]
  exact ⟨k, List.mem_range.2 hk, by simp [h]⟩
theorem goodS_short {l : List Nd} (h : (decide (1 ≤ l.length) && decide (l.length ≤ 200)) = false) : goodS l = false := by
  unfold goodS; rw [h, Bool.false_and]
theorem goodS_all {l : List Nd} (h : (decide (1 ≤ l.length) && decide (l.length ≤ 200)) = true) (ha : ∀ k, k < l.length → nodeOk l k = true) : goodS l = true := by
  unfold goodS; rw [h, Bool.true_and, List.all_eq_true]
  intro k hk
  exact ha k (List.mem_range.1 hk)
theorem nodeOk_up {l : List Nd} {k : Nat} (h : nodeOk l k = true) : -1 ≤ upN l k ∧ upN l k ≤ (k : Int) - 1 := by
  unfold nodeOk at h
  simp only [Bool.and_eq_true, decide_eq_true_eq] at h
  exact ⟨h.1.2.1, h.1.2.2⟩
def endB (R : Bool) (dd pn : Nat) (kd : Int) : Bool := R && (decide (dd ≤ 60) && decide (pn = wantN kd))
theorem endB_R {dd pn : Nat} {kd : Int} : endB false dd pn kd = false := rfl
theorem endB_dd {R : Bool} {dd pn : Nat} {kd : Int} (h : ¬ dd ≤ 60) : endB R dd pn kd = false := by unfold endB; rw [decide_eq_false h]; simp
theorem endB_pn {R : Bool} {dd pn : Nat} {kd : Int} (h : ¬ pn = wantN kd) : endB R dd pn kd = false := by unfold endB; rw [decide_eq_false h]; simp
theorem endB_ok {dd pn : Nat} {kd : Int} (h1 : dd ≤ 60) (h2 : pn = wantN kd) : endB true dd pn kd = true := by
  unfold endB; rw [decide_eq_true h1, decide_eq_true h2]; rfl
def headB (kd nm : Int) : Bool := (decide (1 ≤ kd) && decide (kd ≤ 5)) && ((decide (0 ≤ nm) && decide (nm ≤ 999)) && (decide (kd = 1) || decide (nm = 0)))
theorem wantN_le (k : Int) : wantN k ≤ 2 := by unfold wantN; split <;> omega
/-- What the last line of the model asks of a node. -/
def nodeEnd (l : List Nd) (k : Nat) (ar : Bool) (dp : Nat) (q : Int) : Bool :=
  ar && (decide (dp ≤ 60) && decide ((partsTo l k l.length).length = wantN q))
theorem nodeOk_eq (l : List Nd) (k : Nat) : nodeOk l k = ((decide (k = 0) == decide (upN l k = -1)) && (decide (-1 ≤ upN l k) && decide (upN l k ≤ (k : Int) - 1)) && (headB (ndAt l k).k (ndAt l k).n && nodeEnd l k (decide (k = 0) || ancF l (upN l k) k ((k : Int) - 1)) (dpF l (k + 1) k) (ndAt l k).k)) := rfl
theorem dpF_le (l : List Nd) : ∀ (f : Nat) (a : Int), dpF l f a ≤ f
  | 0, _ => Nat.le_refl _
  | f + 1, a => by rw [dpF]; split; omega; have := dpF_le l f (upN l a.toNat); omega

set_option maxHeartbeats 8000000 in
set_option maxRecDepth 100000 in
theorem specGoodComb_any (l : List Nd) (v : Value) (w : World) (hv : NdIn w v l) (hl : l.length ≤ 1048576) :
    Calls Tryd.prog 36 #[v] w fun e w' => e = .returned (.bool (goodS l)) ∧ Below w.heap.size w w' := by
  have HV := hideT' hv
  obtain ⟨o, cap, rfl⟩ := hv.len
  clear hv
  obtain ⟨r, hr⟩ : ∃ r, r = goodS l := ⟨_, rfl⟩
  rw [← hr]
  have HR := hideT' hr
  obtain ⟨n, hn⟩ : ∃ n, n = l.length := ⟨_, rfl⟩
  have HNN := hideT' hn
  rw [← hn] at hl ⊢
  clear hr
  by_cases hlen : 1 ≤ n ∧ n ≤ 200
  · have hz := zero_comb.1
    have HL : Hid ((decide (1 ≤ l.length) && decide (l.length ≤ 200)) = true) := by unfold Hid; rw [← hn]; simp [hlen.1, hlen.2]
    clear hn
    obtain ⟨h1, h150⟩ := hlen
    have hb1 : decide ((1 : Int) ≤ (n : Int)) = true := decide_eq_true (by omega)
    have hb2 : decide ((n : Int) ≤ (200 : Int)) = true := decide_eq_true (by omega)
    go_enter Tryd.func36, Tryd.ntmps36
    go_wp2_with fail
    refine (l1In_any (n : Int) 1 200 _).mono ?_
    rintro e w1 ⟨rfl, rfl⟩
    rw [hb1, hb2]
    clear hb1 hb2
    go_wp2_with fail
    go_loopg [16] n (fun g i wr => ∃ k : Nat, g = n - k ∧ k ≤ n ∧ i = .int .i64 (k : Int) ∧ (∀ j, j < k → nodeOk l j = true) ∧ Below w1.heap.size w1 wr)
    case atStart => exact ⟨0, rfl, by omega, by go_num, fun j hj => absurd hj (by omega), Below.refl _ _⟩
    case round =>
      obtain ⟨k, hg, hk, rfl, hok, hW⟩ := hrel
      have HOK := hideT' hok
      clear hok
      by_cases hlt : (k : Int) < (n : Int)
      · obtain ⟨nd, hnd⟩ : ∃ nd, nd = ndAt l k := ⟨_, rfl⟩
        obtain ⟨b, rfl, hb, c0, c1, c2⟩ := (HV.out.below hW).cells (by have := HNN.out; omega) hnd
        have HND := hideT' hnd
        have HUP : Hid (upN l k = nd.u) := by unfold Hid upN; rw [← hnd]
        have hb' : b < wr.heap.size := hb
        clear hb hnd
        obtain ⟨kd, nm, u⟩ := nd
        simp only at c0 c1 c2 HUP
        have HW := hideT' hW
        have hsz := hW.size
        clear hW
        obtain ⟨q0, hq0⟩ : ∃ q0, ((k : Int) == 0) = q0 := ⟨_, rfl⟩
        obtain ⟨q1, hq1⟩ : ∃ q1, (u == (-1 : Int)) = q1 := ⟨_, rfl⟩
        have HQ0 : Hid (q0 = decide (k = 0)) := by unfold Hid; rw [← hq0, Bool.eq_iff_iff, beq_iff_eq, decide_eq_true_eq]; omega
        have HQ1 : Hid (q1 = decide (u = -1)) := by unfold Hid; rw [← hq1, Bool.eq_iff_iff, beq_iff_eq, decide_eq_true_eq]
        have HBAD : Hid (nodeOk l k = false → r = false) := by
          unfold Hid; intro h; rw [HR.out]; exact goodS_bad (by have := HNN.out; omega) h
        by_cases hqq : q0 = q1
        · subst hqq
          by_cases hin : -1 ≤ u ∧ u ≤ (k : Int) - 1
          · obtain ⟨hi1, hi2⟩ := hin
            have hb1 : decide (-1 ≤ u) = true := decide_eq_true hi1
            have hb2 : decide (u ≤ (k : Int) - 1) = true := decide_eq_true hi2
            have HUPS : Hid (∀ j, j ≤ k → -1 ≤ upN l j ∧ upN l j ≤ (j : Int) - 1) := by
              unfold Hid; intro j hj
              by_cases e : j = k
              · subst e; rw [HUP.out]; exact ⟨hi1, hi2⟩
              · exact nodeOk_up (HOK.out j (by omega))
            obtain ⟨tb, htb⟩ : ∃ tb, tb = wr.heap.size := ⟨_, rfl⟩
            have HEND : Hid (nodeOk l k = (headB kd nm && nodeEnd l k (q0 || ancF l u k ((k : Int) - 1)) (dpF l (k + 1) k) kd)) := by
              unfold Hid
              rw [nodeOk_eq, HUP.out, ← HND.out, ← HQ0.out, ← HQ1.out, hb1, hb2]
              simp
            go_wp2_with fail
            refine (l1In_any u (-1) ((k : Int) - 1) _).mono ?_
            rintro e w2 ⟨rfl, hw2⟩
            rw [hb1, hb2]
            have HW2 : Hid (Below w1.heap.size w1 w2) := by unfold Hid; rw [hw2]; exact HW.out.alloc hsz _
            have hrow : RowAt w2 tb 72 #[.int .i64 kd, .int .i64 nm, .int .i64 u] := by rw [hw2, htb]; exact RowAt.new _ _ _
            have d0 : w2.cell? ⟨tb, 0, none⟩ = some (.int .i64 kd) := by rw [cell_of_row _ _ _ _ _ _ hrow]; rfl
            have d1 : w2.cell? ⟨tb, 1, none⟩ = some (.int .i64 nm) := by rw [cell_of_row _ _ _ _ _ _ hrow]; rfl
            have d2 : w2.cell? ⟨tb, 2, none⟩ = some (.int .i64 u) := by rw [cell_of_row _ _ _ _ _ _ hrow]; rfl
            rw [← htb]
            have HTB : Hid (tb < w2.heap.size) := hrow.lt
            clear hw2 hrow hb1 hb2 hb' htb
            by_cases hkn : ((1 ≤ kd ∧ kd ≤ 5) ∧ (0 ≤ nm ∧ nm ≤ 999)) ∧ (kd = 1 ∨ nm = 0)
            · obtain ⟨⟨⟨j1, j2⟩, ⟨j3, j4⟩⟩, j5⟩ := hkn
              have e1 : decide (1 ≤ kd) = true := decide_eq_true j1
              have e2 : decide (kd ≤ 5) = true := decide_eq_true j2
              have e3 : decide (0 ≤ nm) = true := decide_eq_true j3
              have e4 : decide (nm ≤ 999) = true := decide_eq_true j4
              have HHB : Hid (headB kd nm = true) := by unfold Hid headB; rw [e1, e2, e3, e4]; rcases j5 with h | h <;> simp [h]
              have j6 : ((kd != 1) = false) ∨ ((kd != 1) = true ∧ (nm != 0) = false) := by
                by_cases h : kd = 1
                · exact .inl (by simp [h])
                · refine .inr ⟨by simp [h], ?_⟩
                  rcases j5 with h' | h'
                  · exact absurd h' h
                  · simp [h']
              clear j5
              go_wp2_with fail
              refine (l1In_any kd 1 5 _).mono ?_
              rintro e w3 ⟨rfl, hw3⟩
              rw [hw3]
              clear hw3
              rw [e1, e2]
              go_wp2_with fail
              refine (l1In_any nm 0 999 _).mono ?_
              rintro e w4 ⟨rfl, hw3⟩
              rw [hw3]
              clear hw3
              rw [e3, e4]
              clear e1 e2 e3 e4
              rcases j6 with j6 | ⟨j6, j7⟩
              all_goals (
                obtain ⟨R, hRR⟩ : ∃ R, R = (q0 || ancF l u k ((k : Int) - 1)) := ⟨_, rfl⟩
                have HRR := hideT' hRR
                clear hRR c0 c1 c2
                go_upto_block 2 with fail
                go_cut [5, 6, 16] from 16 to 103 (fun ar at_ ix wx => ar = .bool R ∧ (∃ a : Int, at_ = .int .i64 a) ∧ ix = .int .i64 (k : Int) ∧ w2 = wx)
                case first =>
                  go_wp2_with fail
                  go_loopg [5, 6] k (fun g ar at_ wx => ∃ (a : Int) (q : Bool) (f : Nat), g = (a + 1).toNat ∧ ar = .bool q ∧ at_ = .int .i64 a ∧ -1 ≤ a ∧ a ≤ (k : Int) - 1 ∧ a < f ∧ Hid ((q || ancF l u f a) = R) ∧ w2 = wx)
                  case atStart => exact ⟨(k : Int) - 1, q0, k, by omega, rfl, by go_num, by omega, by omega, by omega, HRR.out.symm, rfl⟩
                  case round =>
                    obtain ⟨a, q, f, hga, rfl, rfl, ha1, ha2, haf, HA, rfl⟩ := hrel
                    by_cases hgo : 0 ≤ a ∧ q = false
                    · obtain ⟨ha0, rfl⟩ := hgo
                      obtain ⟨m, rfl⟩ : ∃ m : Nat, a = (m : Int) := ⟨a.toNat, by omega⟩
                      obtain ⟨nd, hnd⟩ : ∃ nd, nd = ndAt l m := ⟨_, rfl⟩
                      obtain ⟨b', e', hb', c0, c1, c2⟩ := (HV.out.below HW2.out).cells (by have := HNN.out; omega) hnd
                      cases e'
                      have hups := HUPS.out m (by omega)
                      have HUM : Hid (upN l m = nd.u) := by unfold Hid upN; rw [← hnd]
                      rw [HUM.out] at hups
                      clear hnd hb' c0 c1
                      obtain ⟨kd', nm', u'⟩ := nd
                      simp only at c2 HUM hups
                      obtain ⟨q', hq'⟩ : ∃ q', ((m : Int) == u) = q' := ⟨_, rfl⟩
                      have HQ' : Hid ((q' || ancF l u (f - 1) u') = R) := by
                        unfold Hid
                        rw [← HA.out]
                        obtain ⟨f', rfl⟩ : ∃ f', f = f' + 1 := ⟨f - 1, by omega⟩
                        rw [ancF, if_neg (by omega), Int.toNat_natCast, HUM.out, ← hq', Nat.add_sub_cancel]
                        by_cases hmu : (m : Int) = u
                        · rw [if_pos hmu]; simp [hmu]
                        · rw [if_neg hmu]; simp [hmu]
                      go_wp2
                      go_roundg ((u' + 1).toNat)
                      case measure => omega
                      case rel => exact ⟨u', q', f - 1, rfl, rfl, rfl, hups.1, by omega, by omega, HQ', rfl⟩
                    · have HQR : Hid (q = R) := by
                        unfold Hid
                        rw [← HA.out]
                        by_cases hq : q = true
                        · rw [hq]; rfl
                        · have hq' : q = false := by simpa using hq
                          have : a < 0 := by
                            rcases Int.lt_or_le a 0 with h | h
                            · exact h
                            · exact absurd ⟨h, hq'⟩ hgo
                          rw [hq']
                          cases f with
                          | zero => rfl
                          | succ f => rw [ancF, if_pos this]; rfl
                      have hex : a < 0 ∨ (0 ≤ a ∧ q = true) := by
                        rcases Int.lt_or_le a 0 with h | h
                        · exact .inl h
                        · refine .inr ⟨h, ?_⟩
                          cases q with
                          | true => rfl
                          | false => exact absurd ⟨h, rfl⟩ hgo
                      clear hgo HA
                      have hex3 : (a < 0 ∧ q = false) ∨ (a < 0 ∧ q = true) ∨ (0 ≤ a ∧ q = true) := by
                        rcases hex with h | h
                        · cases q with
                          | false => exact .inl ⟨h, rfl⟩
                          | true => exact .inr (.inl ⟨h, rfl⟩)
                        · exact .inr (.inr h)
                      clear hex
                      rcases hex3 with ⟨ha, rfl⟩ | ⟨ha, rfl⟩ | ⟨ha, rfl⟩
                      · go_wp2
                        go_meet
                        case rel => exact ⟨by rw [HQR.out], ⟨_, rfl⟩, rfl, rfl⟩
                      · go_wp2
                        go_meet
                        case rel => exact ⟨by rw [HQR.out], ⟨_, rfl⟩, rfl, rfl⟩
                      · go_wp2
                        go_meet
                        case rel => exact ⟨by rw [HQR.out], ⟨_, rfl⟩, rfl, rfl⟩
                case rest =>
                  obtain ⟨rfl, ⟨aa, rfl⟩, rfl, rfl⟩ := hcut
                  obtain ⟨DP, hDP⟩ : ∃ DP, DP = dpF l (k + 1) k := ⟨_, rfl⟩
                  have hDPl : DP ≤ k + 1 := by rw [hDP]; exact dpF_le _ _ _
                  have HDP := hideT' hDP
                  clear hDP
                  obtain ⟨pn, hpn⟩ : ∃ pn, pn = (partsTo l k l.length).length := ⟨_, rfl⟩
                  have hpnl : pn ≤ 200 := by rw [hpn]; have := partsTo_le l k l.length; have := HNN.out; omega
                  have HPC : Hid (∀ w3, NdIn w3 (.slice (some ⟨b, 0, none⟩) n cap) l → Calls Tryd.prog 63 #[.slice (some ⟨b, 0, none⟩) n cap, .int .i64 (k : Int)] w3 fun e w' => (∃ o c, e = .returned (.slice o pn c)) ∧ Below w3.heap.size w3 w') := by
                    unfold Hid; intro w3 h3
                    refine (lcParts_any l k _ w3 h3 (by have := HNN.out; omega) (by have := HNN.out; omega)).mono ?_
                    rintro e w' ⟨⟨uv, rfl, hown⟩, hB⟩
                    obtain ⟨o', c', rfl⟩ := own_formT hown
                    exact ⟨⟨o', c', by rw [natsI_len, ← hpn]⟩, hB⟩
                  have HEN2 : Hid (nodeOk l k = (headB kd nm && endB R DP pn kd)) := by
                    unfold Hid; rw [HEND.out, ← HRR.out, ← HDP.out]; unfold nodeEnd endB; rw [← hpn]
                  clear hpn
                  have HVW : Hid (NdIn w2 (.slice (some ⟨b, 0, none⟩) n cap) l) := by unfold Hid; have := HV.out.below HW2.out; rw [HNN.out]; exact this
                  go_wp2_with fail
                  go_loopg [7, 8] (k + 1) (fun g dv at_ wx => ∃ (a : Int) (dd f : Nat), g = (a + 1).toNat ∧ dv = .int .i64 (dd : Int) ∧ at_ = .int .i64 a ∧ -1 ≤ a ∧ a ≤ (k : Int) ∧ a < f ∧ Hid (dd + dpF l f a = DP) ∧ dd ≤ DP ∧ w2 = wx)
                  case atStart => exact ⟨(k : Int), 0, k + 1, by omega, rfl, by go_num, by omega, by omega, by omega, by unfold Hid; rw [HDP.out]; omega, by omega, rfl⟩
                  case round =>
                    obtain ⟨a, dd, f, hga, rfl, rfl, ha1, ha2, haf, HA, hdd, rfl⟩ := hrel
                    by_cases ha0 : 0 ≤ a
                    · obtain ⟨m, rfl⟩ : ∃ m : Nat, a = (m : Int) := ⟨a.toNat, by omega⟩
                      obtain ⟨nd, hnd⟩ : ∃ nd, nd = ndAt l m := ⟨_, rfl⟩
                      obtain ⟨b', e', hb', c0, c1, c2⟩ := (HV.out.below HW2.out).cells (by have := HNN.out; omega) hnd
                      cases e'
                      have hups := HUPS.out m (by omega)
                      have HUM : Hid (upN l m = nd.u) := by unfold Hid upN; rw [← hnd]
                      rw [HUM.out] at hups
                      clear hnd hb' c0 c1
                      obtain ⟨kd', nm', u'⟩ := nd
                      simp only at c2 HUM hups
                      have hst : dd + 1 + dpF l (f - 1) u' = DP := by
                        rw [← HA.out]
                        obtain ⟨f', rfl⟩ : ∃ f', f = f' + 1 := ⟨f - 1, by omega⟩
                        rw [dpF, if_neg (by omega), Int.toNat_natCast, HUM.out, Nat.add_sub_cancel]
                        omega
                      have HST := hideT' hst
                      have hdd1 : dd + 1 ≤ DP := by omega
                      clear hst
                      go_wp2
                      go_roundg ((u' + 1).toNat)
                      case measure => omega
                      case rel => exact ⟨u', dd + 1, f - 1, rfl, by go_num, rfl, hups.1, by omega, by omega, HST, hdd1, rfl⟩
                    · have hdp : dd = DP := by
                        rw [← HA.out]
                        have : dpF l f a = 0 := by
                          cases f with
                          | zero => rfl
                          | succ f => rw [dpF, if_pos (by omega)]
                        omega
                      subst hdp
                      clear HA
                      have HE4 : Hid (nodeOk l k = endB R dd pn kd) := by
                        unfold Hid; rw [HEN2.out, HHB.out, Bool.true_and]
                      cases R with
                      | false =>
                        have HF : Hid (r = false) := HBAD.out (by rw [HE4.out]; exact endB_R)
                        by_cases hk2 : kd = 2
                        all_goals (
                          go_wp2
                          go_ret
                          exact ⟨by rw [HF.out]; rfl, HW2.out⟩)
                      | true =>
                        by_cases hd60 : dd ≤ 60
                        · have hpc : pn = wantN kd ∨ ¬ pn = wantN kd := by omega
                          obtain ⟨wn, hwn⟩ : ∃ wn, wn = wantN kd := ⟨_, rfl⟩
                          have hkw : (kd = 2 ∧ wn = 2) ∨ (¬ kd = 2 ∧ wn = 0) := by rw [hwn]; unfold wantN; by_cases h : kd = 2 <;> simp [h]
                          have HWN := hideT' hwn
                          rw [← hwn] at hpc
                          clear hwn
                          rcases hkw with ⟨hk2, hw⟩ | ⟨hk2, hw⟩
                          all_goals (
                            subst hw
                            go_wp2_with fail
                            refine (HPC.out _ HVW.out).mono ?_
                            rintro e w5 ⟨⟨o5, c5, rfl⟩, hB5⟩
                            have HB6 : Hid (Below w1.heap.size w1 w5) := HW2.out.trans (hB5.mono HW2.out.size)
                            clear hB5 d0 d1 d2
                            rcases hpc with hpc | hpc
                            · have HK : Hid (nodeOk l k = true) := by unfold Hid; rw [HE4.out]; exact endB_ok hd60 (by rw [hpc, HWN.out])
                              subst hpc
                              go_wp2
                              go_roundg (n - (k + 1))
                              case measure => omega
                              case rel => exact ⟨k + 1, rfl, by omega, by go_num, fun j hj => if e : j = k then by rw [e]; exact HK.out else HOK.out j (by omega), HB6.out⟩
                            · have HF : Hid (r = false) := HBAD.out (by rw [HE4.out]; exact endB_pn (by rw [← HWN.out]; exact hpc))
                              have hpi : ∀ z : Nat, ¬ pn = z → ¬ (pn : Int) = (z : Int) := fun z h => by omega
                              have hpi2 := hpi _ hpc
                              clear hpi
                              simp only [Int.cast_ofNat_Int] at hpi2
                              have hpb := bne_iff_ne.2 hpi2
                              go_wp2
                              go_ret
                              exact ⟨by rw [HF.out]; rfl, HB6.out⟩)
                        · have HF : Hid (r = false) := HBAD.out (by rw [HE4.out]; exact endB_dd hd60)
                          by_cases hk2 : kd = 2
                          all_goals (
                            go_wp2
                            go_ret
                            exact ⟨by rw [HF.out]; rfl, HW2.out⟩))
            · have HF : Hid (r = false) := HBAD.out (by
                rw [HEND.out]
                have : headB kd nm = false := by
                  unfold headB
                  rw [← Bool.and_assoc, Bool.eq_false_iff]
                  intro h
                  simp only [Bool.and_eq_true, Bool.or_eq_true, decide_eq_true_eq] at h
                  exact hkn ⟨⟨h.1.1, h.1.2⟩, h.2⟩
                rw [this]; rfl)
              by_cases g1 : 1 ≤ kd ∧ kd ≤ 5
              · have e1 : decide (1 ≤ kd) = true := decide_eq_true g1.1
                have e2 : decide (kd ≤ 5) = true := decide_eq_true g1.2
                by_cases g2 : 0 ≤ nm ∧ nm ≤ 999
                · have e3 : decide (0 ≤ nm) = true := decide_eq_true g2.1
                  have e4 : decide (nm ≤ 999) = true := decide_eq_true g2.2
                  have g3 : ¬ kd = 1 := fun h => hkn ⟨⟨g1, g2⟩, .inl h⟩
                  have g4 : ¬ nm = 0 := fun h => hkn ⟨⟨g1, g2⟩, .inr h⟩
                  have g5 : (kd != 1) = true := by simp [g3]
                  have g6 : (nm != 0) = true := by simp [g4]
                  clear hkn
                  go_wp2_with fail
                  refine (l1In_any kd 1 5 _).mono ?_
                  rintro e w3 ⟨rfl, hw3⟩
                  rw [hw3]
                  clear hw3
                  rw [e1, e2]
                  go_wp2_with fail
                  refine (l1In_any nm 0 999 _).mono ?_
                  rintro e w4 ⟨rfl, hw3⟩
                  rw [hw3]
                  clear hw3
                  rw [e3, e4]
                  clear e1 e2 e3 e4
                  go_wp2
                  go_ret
                  exact ⟨by rw [HF.out]; rfl, HW2.out⟩
                · have e3 : (decide (0 ≤ nm) && decide (nm ≤ 999)) = false := by simpa using g2
                  clear hkn g2
                  go_wp2_with fail
                  refine (l1In_any kd 1 5 _).mono ?_
                  rintro e w3 ⟨rfl, hw3⟩
                  rw [hw3]
                  clear hw3
                  rw [e1, e2]
                  go_wp2_with fail
                  refine (l1In_any nm 0 999 _).mono ?_
                  rintro e w4 ⟨rfl, hw3⟩
                  rw [hw3]
                  clear hw3
                  rw [e3]
                  clear e1 e2 e3
                  go_wp2
                  go_ret
                  exact ⟨by rw [HF.out]; rfl, HW2.out⟩
              · have e1 : (decide (1 ≤ kd) && decide (kd ≤ 5)) = false := by simpa using g1
                clear hkn g1
                go_wp2_with fail
                refine (l1In_any kd 1 5 _).mono ?_
                rintro e w3 ⟨rfl, hw3⟩
                rw [hw3]
                clear hw3
                rw [e1]
                clear e1
                go_wp2
                go_ret
                exact ⟨by rw [HF.out]; rfl, HW2.out⟩
          · have HF : Hid (r = false) := HBAD.out (by
              rw [nodeOk_eq, HUP.out]
              have : (decide (-1 ≤ u) && decide (u ≤ (k : Int) - 1)) = false := by simpa using hin
              rw [this]; simp)
            have hbb : (decide (-1 ≤ u) && decide (u ≤ (k : Int) - 1)) = false := by simpa using hin
            go_wp2_with fail
            refine (l1In_any u (-1) ((k : Int) - 1) _).mono ?_
            rintro e w2 ⟨rfl, hw2⟩
            rw [hbb]
            have HW2 : Hid (Below w1.heap.size w1 w2) := by unfold Hid; rw [hw2]; exact HW.out.alloc hsz _
            clear hbb hw2
            go_wp2
            go_ret
            exact ⟨by rw [HF.out]; rfl, HW2.out⟩
        · have HF : Hid (r = false) := HBAD.out (by
            rw [nodeOk_eq, HUP.out, ← HQ0.out, ← HQ1.out]
            have : (q0 == q1) = false := by simpa using hqq
            rw [this]; rfl)
          have HW2 : Hid (Below w1.heap.size w1 (wr.alloc (.cells #[.int .i64 kd, .int .i64 nm, .int .i64 u] 72))) := HW.out.alloc hsz _
          cases q0 <;> cases q1
          · exact absurd rfl hqq
          · go_wp2
            go_ret
            exact ⟨by rw [HF.out]; rfl, HW2.out⟩
          · go_wp2
            go_ret
            exact ⟨by rw [HF.out]; rfl, HW2.out⟩
          · exact absurd rfl hqq
      · have HT : Hid (r = true) := by
          unfold Hid; rw [HR.out]
          exact goodS_all HL.out (fun j hj => HOK.out j (by have := HNN.out; omega))
        go_wp2
        go_ret
        exact ⟨by rw [HT.out]; rfl, hW⟩
  · have HF : Hid (r = false) := by
      unfold Hid; rw [HR.out]
      refine goodS_short ?_
      rw [← hn]; simpa using hlen
    have hbb : (decide ((1 : Int) ≤ (n : Int)) && decide ((n : Int) ≤ (200 : Int))) = false := by
      rw [Bool.and_eq_false_iff, decide_eq_false_iff_not, decide_eq_false_iff_not]; omega
    clear hn
    go_enter Tryd.func36, Tryd.ntmps36
    go_wp2_with fail
    refine (l1In_any (n : Int) 1 200 _).mono ?_
    rintro e w1 ⟨rfl, rfl⟩
    rw [hbb]
    clear hbb
    go_wp2
    go_ret
    exact ⟨by rw [HF.out]; rfl, Below.refl _ _⟩
end Go.Proofs.YtgolfbjfopoeeaaDoor.CB

/-
  What lcFlat and lcTold of the model answer.
-/
namespace Go.Proofs.YtgolfbjfopoeeaaDoor.CB
open Go.RowKit BL
set_option linter.unusedVariables false

/-- The nodes of a tree behind others, as the model lays them: no more than are too many. -/
def flatC : List Nd → Lm → Int → List Nd
  | l, .var n, up => l ++ [⟨n.kd, n.nm, up⟩]
  | l, .app s t, up =>
    if (if (l ++ [(⟨2, 0, up⟩ : Nd)]).length ≤ 200 then flatC (l ++ [⟨2, 0, up⟩]) s (l.length : Int) else l ++ [⟨2, 0, up⟩]).length ≤ 200
    then flatC (if (l ++ [(⟨2, 0, up⟩ : Nd)]).length ≤ 200 then flatC (l ++ [⟨2, 0, up⟩]) s (l.length : Int) else l ++ [⟨2, 0, up⟩]) t (l.length : Int)
    else if (l ++ [(⟨2, 0, up⟩ : Nd)]).length ≤ 200 then flatC (l ++ [⟨2, 0, up⟩]) s (l.length : Int) else l ++ [⟨2, 0, up⟩]
/-- One part more. -/
def partC (k : Int) (l : List Nd) (s : Lm) : List Nd := if l.length ≤ 200 then flatC l s k else l
theorem flatC_kids (l : List Nd) (t : Lm) (up : Int) : flatC l t up = t.kids.foldl (partC (l.length : Int)) (l ++ [⟨t.kd, t.nm, up⟩]) := by
  cases t <;> rfl
theorem flatC_spec : ∀ (t : Lm) (l : List Nd) (up : Int), l.length ≤ 200 → (l.length + t.sz ≤ 200 → flatC l t up = l ++ t.flat l.length up) ∧ (200 < l.length + t.sz → 200 < (flatC l t up).length) ∧ (flatC l t up).length ≤ 201
  | .var n, l, up, h => by
    refine ⟨fun _ => rfl, fun h2 => ?_, ?_⟩
    · simp only [flatC, List.length_append, List.length_singleton, Lm.sz] at h2 ⊢; omega
    · simp only [flatC, List.length_append, List.length_singleton]; omega
  | .app s t, l, up, h => by
    have hl : (l ++ [(⟨2, 0, up⟩ : Nd)]).length = l.length + 1 := by simp
    have := s.sz_pos
    have := t.sz_pos
    by_cases h1 : l.length + 1 ≤ 200
    · have ih := flatC_spec s (l ++ [⟨2, 0, up⟩]) (l.length : Int) (by omega)
      rw [hl] at ih
      obtain ⟨m, hm⟩ : ∃ m, m = flatC (l ++ [⟨2, 0, up⟩]) s (l.length : Int) := ⟨_, rfl⟩
      have e : flatC l (.app s t) up = if m.length ≤ 200 then flatC m t (l.length : Int) else m := by rw [flatC, if_pos (show (l ++ [(⟨2, 0, up⟩ : Nd)]).length ≤ 200 by omega), ← hm]
      rw [← hm] at ih
      rw [e]
      by_cases h2 : m.length ≤ 200
      · rw [if_pos h2]
        have hfit : l.length + 1 + s.sz ≤ 200 := by
          rcases Nat.lt_or_ge 200 (l.length + 1 + s.sz) with h3 | h3
          · have := ih.2.1 h3; omega
          · omega
        have hme := ih.1 hfit
        have hml : m.length = l.length + 1 + s.sz := by rw [hme, List.length_append, hl, Lm.flat_sz]
        have ih2 := flatC_spec t m (l.length : Int) h2
        refine ⟨fun h3 => ?_, fun h3 => ih2.2.1 (by simp only [Lm.sz] at h3; omega), ih2.2.2⟩
        rw [ih2.1 (by simp only [Lm.sz] at h3; omega), Lm.flat, hml, hme]
        simp
      · rw [if_neg h2]
        refine ⟨fun h3 => ?_, fun _ => by omega, ih.2.2⟩
        exfalso
        simp only [Lm.sz] at h3
        have := ih.1 (by omega)
        rw [this, List.length_append, hl, Lm.flat_sz] at h2
        omega
    · have e : flatC l (.app s t) up = l ++ [⟨2, 0, up⟩] := by rw [flatC, if_neg (show ¬ (l ++ [(⟨2, 0, up⟩ : Nd)]).length ≤ 200 by omega), if_neg (by omega)]
      rw [e, hl]
      refine ⟨fun h2 => ?_, fun _ => by omega, by omega⟩
      simp only [Lm.sz] at h2; omega
theorem goodS_flatC (t : Lm) : goodS (flatC [] t (-1)) = t.good := by
  have h := flatC_spec t [] (-1) (by simp)
  simp only [List.length_nil, Nat.zero_add, List.nil_append] at h
  rcases Nat.lt_or_ge 200 t.sz with h1 | h1
  · have h2 := h.2.1 h1
    rw [goodS_short (by simp; omega)]
    unfold Lm.good
    rw [decide_eq_false (show ¬ t.sz ≤ 200 by omega)]; simp
  · rw [h.1 h1]; exact goodS_flat t
/-- The same as the program tells. -/
theorem flatC_told (t : Lm) (h : t.good = true) : flatC [] t (-1) = t.flat 0 (-1) := by
  have h1 := flatC_spec t [] (-1) (by simp)
  simp only [List.length_nil, Nat.zero_add, List.nil_append] at h1
  exact h1.1 (Lm.good_sz h).1
theorem partC_len {k : Int} {l : List Nd} {s : Lm} (h : l.length ≤ 201) : (partC k l s).length ≤ 201 := by
  unfold partC
  split
  · next h1 => exact (flatC_spec s l k h1).2.2
  · exact h

/-- What lcFlat does: the row stays the caller's own, all else but new memory stays. -/
def FlatC (N : Nat) : Prop := ∀ (t : Lm), t.sz ≤ N → ∀ (l : List Nd) (v : Value) (up : Int) (z : Value) (P : Nat → Prop) (B : Nat) (w : World), l.length ≤ 200 → B ≤ w.heap.size → OwnR w B v 72 combL 3 (tri l) → LcIn w P t z → (∀ b, P b → v.ownBlock ≠ some b) →
    Calls Tryd.prog 67 #[v, .agg (lcC t.kd t.nm z), .int .i64 up] w fun e w' => (∃ u, e = .returned u ∧ OwnR w' B u 72 combL 3 (tri (flatC l t up)) ∧ (∀ b, u.ownBlock = some b → v.ownBlock = some b ∨ w.heap.size ≤ b)) ∧ w.grownBy w' v.ownBlock
theorem tri_app (a b : List Nd) : tri (a ++ b) = tri a ++ tri b := by simp [tri]

set_option maxHeartbeats 8000000 in
set_option maxRecDepth 100000 in
theorem lcFlat_step (N : Nat) (IH : ∀ n, n < N → FlatC n) : FlatC N := by
  intro t ht l v up z P B w hl hBw hv hz hPv
  have HIH := hideT' IH
  have HTN := hideT' ht
  obtain ⟨ov, cv, hvv⟩ := own_formT hv
  rw [tri_len] at hvv
  subst hvv
  obtain ⟨oz, cz, hzz, _⟩ := hz.parts
  have HPV := hideT' hPv
  have HZ := hideT' hz
  obtain ⟨m, hm⟩ : ∃ m, m = t.kids.length := ⟨_, rfl⟩
  have hm2 : m ≤ 2 := by rw [hm]; cases t <;> simp [Lm.kids]
  rw [← hm] at hzz
  subst hzz
  have HM := hideT' hm
  obtain ⟨kd, hkd⟩ : ∃ kd, kd = t.kd := ⟨_, rfl⟩
  obtain ⟨nm, hnm⟩ : ∃ nm, nm = t.nm := ⟨_, rfl⟩
  rw [← hkd, ← hnm]
  have HKN := hideT' (And.intro hkd hnm)
  have HV : Hid (w.ownsRow B 72 3 (.slice ov l.length cv) l.length ((tri l).flatMap combL)) := by unfold Hid; have := hv; unfold OwnR at this; rw [tri_len] at this; exact this
  obtain ⟨n, hn⟩ : ∃ n, n = l.length := ⟨_, rfl⟩
  have HNN := hideT' hn
  rw [← hn] at hl HV HPV ⊢
  clear IH ht hv hz hPv hm hkd hnm hn
  have hz0 := zero_lcT.1
  have hzt := zero_comb.1
  obtain ⟨i0, hi, hzz0, hzz1, hzz2⟩ := info_parts info_comb
  show Calls Tryd.prog 67 #[.slice ov n cv, .agg #[.int .i64 kd, .int .i64 nm, .slice oz m cz], .int .i64 up] w _
  have HTC : Hid (∀ j u, (combL (kd, nm, up))[j]? = some u → ((w.alloc (.cells #[.int .i64 kd, .int .i64 nm, .slice oz m cz] 70)).alloc (.cells #[.int .i64 kd, .int .i64 nm, .int .i64 up] 72)).cell? ((⟨w.heap.size + 1, 0, none⟩ : Addr).add j) = some u) := by
    have := comb_cells (w.alloc (.cells #[.int .i64 kd, .int .i64 nm, .slice oz m cz] 70)) (kd, nm, up)
    rw [World.size_alloc] at this
    exact this
  have HRT : Hid (RowAt ((w.alloc (.cells #[.int .i64 kd, .int .i64 nm, .slice oz m cz] 70)).alloc (.cells #[.int .i64 kd, .int .i64 nm, .int .i64 up] 72)) w.heap.size 70 #[.int .i64 kd, .int .i64 nm, .slice oz m cz]) := RowAt.old (RowAt.new _ _ _) _
  have HBA : Hid (Below w.heap.size w ((w.alloc (.cells #[.int .i64 kd, .int .i64 nm, .slice oz m cz] 70)).alloc (.cells #[.int .i64 kd, .int .i64 nm, .int .i64 up] 72))) := ((Below.refl _ _).alloc (Nat.le_refl _) _).alloc (by simp) _
  have HOB : Hid (∀ b, (Value.slice ov n cv).ownBlock = some b → B ≤ b ∧ b < w.heap.size) := fun b hb => HV.out.lt b hb
  go_enter Tryd.func67, Tryd.ntmps67
  go_wp2_with (at_builtin; refine append_own3 _ rfl _ _ 37 rfl B 72 i0 (.agg #[.int .i64 0, .int .i64 0, .int .i64 0]) 3 24 Tryd.underlying37 hi hzz0 hzz1 hzz2 rfl (by decide) (.slice ov n cv) n _ rfl ((HV.out.alloc _).alloc _) ⟨w.heap.size + 1, 0, none⟩ 1 1 (combL (kd, nm, up)) rfl rfl HTC.out (combL_one _) (by omega) (by unfold maxLen; omega) (by omega) (by simp; omega) ?_; intro v6 w6 hv6 hg6 hb6; obtain ⟨o6, c6, rfl⟩ := own_formT hv6; have f2 : w6.cell? ⟨w.heap.size, 2, none⟩ = some (.slice oz m cz) := (by rw [cell_of_row _ _ _ _ _ _ (HRT.out.grown hg6 (fun e => by have := (HOB.out _ e.symm).2; omega))]; rfl); have HV6 := hideT' hv6; have HG6 := hideT' hg6; have HB6 := hideT' hb6; clear hv6 hg6 hb6)
  have HS0 : Hid (∃ cur, cur = l ++ [⟨kd, nm, up⟩] ∧ OwnR w6 B (.slice o6 (n + 1) c6) 72 combL 3 (tri cur) ∧ (∀ b, (Value.slice o6 (n + 1) c6).ownBlock = some b → (Value.slice ov n cv).ownBlock = some b ∨ w.heap.size ≤ b) ∧ w.grownBy w6 (Value.slice ov n cv).ownBlock) := by
    refine ⟨_, rfl, ?_, fun b hb => ?_, ?_⟩
    · unfold OwnR
      rw [tri_app, List.length_append, List.flatMap_append, tri_len, ← HNN.out]
      exact HV6.out
    · rcases HB6.out with h | h
      · exact .inl (by rw [← h]; exact hb)
      · rw [h] at hb
        injection hb with hb
        simp at hb
        exact .inr (by omega)
    · have hsz := HG6.out.size
      exact ⟨HG6.out.os.trans HBA.out.os, HG6.out.tape.trans HBA.out.tape, HG6.out.output.trans HBA.out.output, by simp at hsz; omega, fun k hk hne => by rw [HG6.out.block k (by simp; omega) hne]; exact HBA.out.block k hk⟩
  go_loopg [0, 24] m (fun gg xv i wr => ∃ (As Bs : List Lm) (cur : List Nd) (ox : Option Addr) (cx k : Nat), gg = Bs.length ∧ Hid (t.kids = As ++ Bs) ∧ i = .int .i64 (As.length : Int) ∧ xv = .slice ox k cx ∧ k ≤ 201 ∧ Hid (k = cur.length ∧ cur = As.foldl (partC (n : Int)) (l ++ [⟨kd, nm, up⟩]) ∧ OwnR wr B (.slice ox k cx) 72 combL 3 (tri cur) ∧ (∀ b, (Value.slice ox k cx).ownBlock = some b → (Value.slice ov n cv).ownBlock = some b ∨ w.heap.size ≤ b) ∧ w.grownBy wr (Value.slice ov n cv).ownBlock))
  case atStart =>
    obtain ⟨cur, e1, e2, e3, e4⟩ := HS0.out
    exact ⟨[], t.kids, cur, o6, c6, n + 1, by rw [HM.out], rfl, rfl, rfl, by omega, ⟨by rw [e1, List.length_append, ← HNN.out]; rfl, e1, e2, e3, e4⟩⟩
  case round =>
    obtain ⟨As, Bs, cur, ox, cx, k, hgg, HA, rfl, rfl, hk151, HS⟩ := hrel
    obtain ⟨j, hj⟩ : ∃ j, j = As.length := ⟨_, rfl⟩
    rw [← hj]
    have HJ := hideT' hj
    clear hj
    cases Bs with
    | nil =>
      have hjm : j = m := by rw [HJ.out, HM.out, HA.out]; simp
      have hnl : ¬ (j : Int) < (m : Int) := by omega
      clear hgg hjm
      go_wp2
      go_ret
      obtain ⟨hk, hc, h1, h2, h3⟩ := HS.out
      refine ⟨⟨_, rfl, ?_, h2⟩, h3⟩
      have e : flatC l t up = cur := by rw [flatC_kids, HA.out, List.append_nil, hc, ← HNN.out, HKN.out.1, HKN.out.2]
      rw [e]; exact h1
    | cons T Bs =>
      have hil : (j : Int) < (m : Int) := by rw [HM.out, HA.out, List.length_append, ← HJ.out]; simp; omega
      have hkj : t.kids[j]? = some T := by rw [HA.out, HJ.out]; simp
      obtain ⟨hk, hcu, hOx, hbx, hgw⟩ := HS.out
      have hzr : LcIn wr (fun b => P b ∧ b < w.heap.size) t (.slice oz m cz) := LcIn.keep (w := w) hgw.size (fun x hx hl => hgw.block x hl (fun e => HPV.out x hx e.symm)) (fun x hx hl => ⟨hx, hl⟩) HZ.out
      obtain ⟨o', c', e', hpart⟩ := hzr.parts
      cases e'
      obtain ⟨g, z1, hoz, hg, ⟨c0, c1, c2⟩, hz1⟩ := hpart j T hkj
      subst hoz
      have hg1 := hg.1
      obtain ⟨oz1, cz1, hzz1'⟩ := hz1.form
      subst hzz1'
      have hTs := Lm.kids_lt (List.mem_of_getElem? hkj)
      obtain ⟨W2, hW2⟩ : ∃ W2, W2 = wr.alloc (.cells #[.int .i64 T.kd, .int .i64 T.nm, .slice oz1 T.kids.length cz1] 70) := ⟨_, rfl⟩
      have hB2 : Below wr.heap.size wr W2 := by rw [hW2]; exact (Below.refl _ _).alloc (Nat.le_refl _) _
      have hws := hgw.size
      have hO2 : OwnR W2 B (.slice ox k cx) 72 combL 3 (tri cur) := OwnR.below hOx hB2 (Nat.le_refl _)
      have hz2 : LcIn W2 (fun b => P b ∧ b < w.heap.size) T (.slice oz1 T.kids.length cz1) := LcIn.below hB2 hz1
      by_cases hle : k ≤ 200
      · have HCALL := hideT' (HIH.out T.sz (by have := HTN.out; omega) T (Nat.le_refl _) cur (.slice ox k cx) (n : Int) _ _ B W2 (by omega) (by have := hB2.size; omega) hO2 hz2 (fun b hb e => by rcases hbx b e with h | h; exact HPV.out b hb.1 h; omega))
        have HCU : Hid (partC (n : Int) cur T = flatC cur T (n : Int)) := by unfold Hid partC; rw [if_pos (by omega)]
        have HKL : Hid ((flatC cur T (n : Int)).length ≤ 201) := (flatC_spec T cur (n : Int) (by omega)).2.2
        have hki : (k : Int) ≤ 200 := by omega
        have HS2 := hideT' (And.intro hk (And.intro hcu (And.intro hbx (And.intro hgw hB2))))
        clear hk hcu hOx hbx hgw hzr hpart hz1 hO2 hz2 hB2 hkj HS
        unfold lcC at HCALL
        go_wp2_with fail
        rw [← hW2]
        refine HCALL.out.mono ?_
        rintro e w9 ⟨⟨u, rfl, hO9, hb9⟩, hg9⟩
        obtain ⟨hk, hcu, hbx, hgw, hB2⟩ := HS2.out
        have hs2 : W2.heap.size = wr.heap.size + 1 := by rw [hW2]; simp
        obtain ⟨o9, c9, he9⟩ := own_formT hO9
        rw [tri_len] at he9
        subst he9
        obtain ⟨k9, hk9⟩ : ∃ k9, k9 = (flatC cur T (n : Int)).length := ⟨_, rfl⟩
        have hk9l : k9 ≤ 201 := by rw [hk9]; exact HKL.out
        rw [← hk9] at hO9 hb9 ⊢
        have HEND : Hid (k9 = (flatC cur T (n : Int)).length ∧ flatC cur T (n : Int) = (As ++ [T]).foldl (partC (n : Int)) (l ++ [⟨kd, nm, up⟩]) ∧ OwnR w9 B (.slice o9 k9 c9) 72 combL 3 (tri (flatC cur T (n : Int))) ∧ (∀ b, (Value.slice o9 k9 c9).ownBlock = some b → (Value.slice ov n cv).ownBlock = some b ∨ w.heap.size ≤ b) ∧ w.grownBy w9 (Value.slice ov n cv).ownBlock) := by
          refine ⟨hk9, by rw [List.foldl_append, ← hcu]; exact HCU.out.symm, hO9, fun b hb => ?_, ?_⟩
          · rcases hb9 b hb with h | h
            · exact hbx b h
            · exact .inr (by omega)
          · refine ⟨hg9.os.trans (hB2.os.trans hgw.os), hg9.tape.trans (hB2.tape.trans hgw.tape), hg9.output.trans (hB2.output.trans hgw.output), by have := hg9.size; omega, fun b hb hne => ?_⟩
            rw [hg9.block b (by omega) (fun e => by rcases hbx b e.symm with h | h; exact hne h.symm; omega), hB2.block b (by omega)]
            exact hgw.block b hb hne
        have HA2 : Hid (t.kids = (As ++ [T]) ++ Bs) := by unfold Hid; rw [HA.out]; simp
        clear hk hcu hbx hgw hB2 hO9 hb9 hg9 hW2 hk9
        go_wp2
        go_roundg Bs.length
        case measure => first | omega | (rw [hgg]; simp)
        case rel => exact ⟨As ++ [T], Bs, flatC cur T (n : Int), o9, c9, k9, rfl, HA2, by rw [List.length_append, ← HJ.out]; go_num, rfl, hk9l, HEND⟩
      · have HCU : Hid (partC (n : Int) cur T = cur) := by unfold Hid partC; rw [if_neg (by omega)]
        have hki : ¬ (k : Int) ≤ 200 := by omega
        have HEND : Hid (k = cur.length ∧ cur = (As ++ [T]).foldl (partC (n : Int)) (l ++ [⟨kd, nm, up⟩]) ∧ OwnR W2 B (.slice ox k cx) 72 combL 3 (tri cur) ∧ (∀ b, (Value.slice ox k cx).ownBlock = some b → (Value.slice ov n cv).ownBlock = some b ∨ w.heap.size ≤ b) ∧ w.grownBy W2 (Value.slice ov n cv).ownBlock) := by
          refine ⟨hk, by rw [List.foldl_append, ← hcu]; exact HCU.out.symm, hO2, hbx, ⟨hB2.os.trans hgw.os, hB2.tape.trans hgw.tape, hB2.output.trans hgw.output, by have := hB2.size; omega, fun b hb hne => by rw [hB2.block b (by omega)]; exact hgw.block b hb hne⟩⟩
        have HA2 : Hid (t.kids = (As ++ [T]) ++ Bs) := by unfold Hid; rw [HA.out]; simp
        clear hk hcu hOx hbx hgw hzr hpart hz1 hO2 hz2 hB2 hkj HS
        go_wp2
        rw [← hW2]
        go_roundg Bs.length
        case measure => first | omega | (rw [hgg]; simp)
        case rel => exact ⟨As ++ [T], Bs, cur, ox, cx, k, rfl, HA2, by rw [List.length_append, ← HJ.out]; go_num, rfl, hk151, HEND⟩
theorem lcFlat_all : ∀ N, FlatC N := by
  intro N
  induction N using Nat.strongRecOn with
  | _ N IH => exact lcFlat_step N IH
set_option maxHeartbeats 2000000 in
/-- What lcTold answers: as tellTree. -/
theorem lcTold_any (t : Lm) (z : Value) (P : Nat → Prop) (w : World) (hz : LcIn w P t z) :
    Calls Tryd.prog 44 #[.agg (lcC t.kd t.nm z)] w fun e w' => ToldT w t e w' ∧ Below w.heap.size w w' := by
  obtain ⟨oz, cz, hzz⟩ := hz.form
  subst hzz
  have hB1 : Below w.heap.size w (w.alloc (.cells #[.int .i64 t.kd, .int .i64 t.nm, .slice oz t.kids.length cz] 70)) := (Below.refl _ _).alloc (Nat.le_refl _) _
  have HB1 := hideT' hB1
  have HC := hideT' (lcFlat_all t.sz t (Nat.le_refl _) [] (.slice none 0 0) (-1) (.slice oz t.kids.length cz) P w.heap.size (w.alloc (.cells #[.int .i64 t.kd, .int .i64 t.nm, .slice oz t.kids.length cz] 70)) (by simp) hB1.size (World.ownsRow_nil _ _ _ _) (LcIn.below hB1 hz) (fun b _ e => by simp [Value.ownBlock] at e))
  have HFL : Hid ((flatC [] t (-1)).length ≤ 201) := (flatC_spec t [] (-1) (by simp)).2.2
  clear hz hB1
  unfold lcC at HC ⊢
  go_enter Tryd.func44, Tryd.ntmps44
  go_wp2_with fail
  refine HC.out.mono ?_
  rintro e w2 ⟨⟨u, rfl, hO, _⟩, hg2⟩
  have hB2 : Below w.heap.size w w2 := HB1.out.grown hg2 HB1.out.size (fun k e => by simp [Value.ownBlock] at e)
  have HG := hideT' (specGoodComb_any (flatC [] t (-1)) u w2 (OwnR.inR hO combL_len) (by have := HFL.out; omega))
  obtain ⟨r, hr⟩ : ∃ r, r = t.good := ⟨_, rfl⟩
  rw [goodS_flatC, ← hr] at HG
  have HR := hideT' hr
  have HO := hideT' hO
  have HB2 := hideT' hB2
  clear hr hO hB2 hg2
  go_wp2_with fail
  refine HG.out.mono ?_
  rintro e w3 ⟨rfl, hB3⟩
  have HB3 : Hid (Below w.heap.size w w3) := HB2.out.trans (hB3.mono HB2.out.size)
  have HO3 := hideT' (OwnR.below (l := tri (flatC [] t (-1))) HO.out hB3 (Nat.le_refl _))
  clear hB3
  cases r with
  | false =>
    go_wp2
    go_ret2
    exact ⟨⟨.slice none 0 0, by rw [← HR.out]; rfl, by rw [← HR.out]; exact World.ownsRow_nil _ _ _ _⟩, HB3.out⟩
  | true =>
    go_wp2
    go_ret2
    refine ⟨⟨u, by rw [← HR.out]; rfl, ?_⟩, HB3.out⟩
    rw [← HR.out, if_pos rfl, ← flatC_told t HR.out.symm]
    exact HO3.out
end Go.Proofs.YtgolfbjfopoeeaaDoor.CB

/-
  What is told of a term that may be none: the answers of functions that give a term and whether it is good.
-/
namespace Go.Proofs.YtgolfbjfopoeeaaDoor.CB
open Go.RowKit BL
set_option linter.unusedVariables false

def toldB : Option Lm → Bool
  | none => false
  | some t => t.good
def toldL : Option Lm → List (Int × Int × Int)
  | none => []
  | some t => if t.good then tri (t.flat 0 (-1)) else []
theorem toldL_len (o : Option Lm) : (toldL o).length ≤ 1048576 := by
  cases o with
  | none => simp [toldL]
  | some t =>
    unfold toldL
    simp only
    split
    · next h => rw [tri_len, Lm.flat_sz]; have := (Lm.good_sz h).1; omega
    · simp
def TOut (w : World) (o : Option Lm) (e : Ending) (w' : World) : Prop := ∃ u, e = .returned (.tuple #[u, .bool (toldB o)]) ∧ OwnR w' w.heap.size u 72 combL 3 (toldL o)
theorem TOut.no {w w' : World} : TOut w none (.returned (.tuple #[.slice none 0 0, .bool false])) w' := ⟨_, rfl, World.ownsRow_nil _ _ _ _⟩
theorem TOut.bad {w w' : World} {o : Option Lm} (h : o = none) : TOut w o (.returned (.tuple #[.slice none 0 0, .bool false])) w' := by subst h; exact TOut.no
theorem ToldT.out {w w1 w' : World} {t : Lm} {e : Ending} {o : Option Lm} (h : ToldT w1 t e w') (hs : w.heap.size ≤ w1.heap.size) (ho : o = some t) : TOut w o e w' := by
  subst ho
  obtain ⟨u, he, hO⟩ := h
  exact ⟨u, he, ⟨hO.1, hO.2.imp id fun ⟨g, cap, cur, h1, h2, h3⟩ => ⟨g, cap, cur, h1, Nat.le_trans hs h2, h3⟩⟩⟩
/-- A told answer's parts. -/
theorem ToldT.parts {w w' : World} {t : Lm} {e : Ending} (h : ToldT w t e w') : ∃ u, e = .returned (.tuple #[u, .bool t.good]) ∧ OwnR w' w.heap.size u 72 combL 3 (toldL (some t)) := h
theorem readP'_facts {l : List Nd} {t : Lm} (h : readP' l = some t) : l = t.flat 0 (-1) ∧ t.sz ≤ 200 ∧ t.dp ≤ 60 ∧ t.ok = true ∧ t.good = true := by
  have h1 := (readP'_iff l t).1 h
  have h2 := Lm.good_sz h1.2
  exact ⟨h1.1, h2.1, h2.2.1, h2.2.2, h1.2⟩
theorem goodS_none {l : List Nd} (h : readP' l = none) : goodS l = false := by rw [goodS_read, h]; rfl
theorem goodS_some {l : List Nd} {t : Lm} (h : readP' l = some t) : goodS l = true := by rw [goodS_read, h]; rfl
/-- lcTree of a whole good row. -/
theorem lcTree_whole (l : List Nd) (t : Lm) (v : Value) (w : World) (hv : NdIn w v l) (h : readP' l = some t) :
    Calls Tryd.prog 38 #[v, .int .i64 0] w fun e w' => (∃ z, e = .returned (.agg (lcC t.kd t.nm z)) ∧ LcIn w' (fun x => w.heap.size ≤ x) t z) ∧ Below w.heap.size w w' := by
  obtain ⟨h1, h2, _⟩ := readP'_facts h
  exact lcTree_all t.sz t (Nat.le_refl _) l 0 (-1) v w (by rw [h1, Lm.flat_sz]; exact h2) hv (by rw [h1]; exact Seg.whole t) (fun i h3 h4 => by rw [h1, Lm.flat_sz] at h4; omega)
end Go.Proofs.YtgolfbjfopoeeaaDoor.CB

/-
  What a method is looked up to (within a fenced walk).
-/
namespace Go.Proofs.YtgolfbjfopoeeaaDoor
open Go.RowKit
theorem meth_run {t : TypeId} {name : String} {f : FuncId} (hm : (Tryd.prog.info? t).map (fun i => (i.methods.find? (·.name == name)).map (fun m => (m.path.toList, m.func))) = some (some ([], some (f, false)))) (hu : ∃ fs, Tryd.prog.underlying t = some (.struct fs)) (n : Nat) (v : Value) (w : World) : Sem.run Tryd.prog (method (n + 1) t v name) w = .ok (f, v) w := by
  obtain ⟨i, hi, h1⟩ := Option.map_eq_some_iff.1 hm
  obtain ⟨m, hf, h2⟩ := Option.map_eq_some_iff.1 h1
  simp only [Prod.mk.injEq] at h2
  obtain ⟨hp, hfu⟩ := h2
  obtain ⟨fs, hu⟩ := hu
  unfold method
  simp [Sem.run_bind, typeInfo, hi, hf, hp, hfu, follow, receiverAt, Sem.run_pure, Result.andThen, underlying, hu, Place.get]
theorem meth_limits (n : Nat) (v : Value) (w : World) : Sem.run Tryd.prog (method (n + 1) 51 v "loop.example/g00201/impl.limits") w = .ok (145, v) w := meth_run (by kernel_rfl) ⟨_, Tryd.underlying51⟩ n v w
theorem meth_arity (n : Nat) (v : Value) (w : World) : Sem.run Tryd.prog (method (n + 1) 51 v "loop.example/g00201/impl.arity") w = .ok (144, v) w := meth_run (by kernel_rfl) ⟨_, Tryd.underlying51⟩ n v w
theorem meth_under (n : Nat) (v : Value) (w : World) : Sem.run Tryd.prog (method (n + 1) 51 v "loop.example/g00201/impl.under") w = .ok (146, v) w := meth_run (by kernel_rfl) ⟨_, Tryd.underlying51⟩ n v w
end Go.Proofs.YtgolfbjfopoeeaaDoor

/-
  What isGood of a tree answers.
-/
namespace Go.Proofs.YtgolfbjfopoeeaaDoor
open Go.RowKit Go.Shelf BL
set_option linter.unusedVariables false
attribute [local go_sem] Oper.semAt_some

theorem TrIn.own3 {w : World} {P : Nat → Prop} {t : Lm} {b : Nat} (h : TrIn w P t b) : ∃ u, w.cell? ⟨b, 0, none⟩ = some (.int .i64 t.kd) ∧ w.cell? ⟨b, 1, none⟩ = some (.int .i64 t.nm) ∧ w.cell? ⟨b, 2, none⟩ = some (.int .i64 u) := by
  obtain ⟨u, v, h⟩ := h.head
  exact ⟨u, by rw [cell_of_row _ _ _ _ _ _ h]; rfl, by rw [cell_of_row _ _ _ _ _ _ h]; rfl, by rw [cell_of_row _ _ _ _ _ _ h]; rfl⟩
theorem results_one {fn : Func} {p : Tmp} (h : fn.results = #[.cell p 4]) (tmps : Array Value) (w : World) (b : Nat) (v : Value) (hp : tmps[p]?.getD undef = .pointer (some ⟨b, 0, none⟩)) (hc : w.cell? ⟨b, 0, none⟩ = some v) :
    (results fn tmps).run Tryd.prog w = .ok v w := by
  have hu := Tryd.underlying4
  simp [results, h, go_sem, hp, hc]
/-- Whether a node may stand. -/
def Lm.okN : Lm → Bool
  | .var n => decide (0 ≤ n) && decide (n ≤ 99)
  | _ => true
theorem okN_ar (t : Lm) (u : Int) : decide (arN ⟨t.kd, t.nm, u⟩ < 0) = !t.okN := by
  cases t with
  | var n =>
    simp only [Lm.kd, Lm.nm, arN, Lm.okN]
    by_cases h : 0 ≤ n ∧ n ≤ 99
    · simp [h.1, h.2]
    · rw [if_neg (by simpa using h)]
      have : (decide (0 ≤ n) && decide (n ≤ 99)) = false := by simpa using h
      rw [this]; simp
  | lam t => simp [Lm.kd, Lm.nm, arN, Lm.okN]
  | app s t => simp [Lm.kd, Lm.nm, arN, Lm.okN]
theorem ok_walk {t : Lm} {ys : List (Spot × Nat)} (h : ys.map Prod.fst = t.walk 0 (-1) 0) (hall : ∀ y ∈ ys, y.1.t.okN = true) : t.ok = true := by
  rw [Lm.walk_ok t 0 (-1) 0, ← h, List.all_eq_true]
  intro x hx
  obtain ⟨y, hy, rfl⟩ := List.mem_map.1 hx
  have := hall y hy
  revert this
  cases y.1.t <;> simp [Lm.okN]
theorem ok_bad {t : Lm} {pre : List Spot} {x : Spot} {post : List Spot} (h : t.walk 0 (-1) 0 = pre ++ x :: post) (hx : x.t.okN = false) : t.ok = false := by
  rw [Lm.walk_ok t 0 (-1) 0, List.all_eq_false]
  refine ⟨x, by rw [h]; simp, ?_⟩
  revert hx
  cases x.t <;> simp [Lm.okN]
def GdI (w : World) (pre : List (Spot × Nat)) (V : Nat → Prop) (W : World) : Prop :=
  (∀ z, V z ↔ z = w.heap.size) ∧ RowAt W w.heap.size 4 #[.bool false] ∧ Below w.heap.size w W ∧ ∀ y ∈ pre, y.1.t.okN = true
theorem GdI.step {w : World} {pre : List (Spot × Nat)} {V : Nat → Prop} {A B : World} {row : Option Nat} (h : GdI w pre V A) (hg : A.grownBy B row) (hr : ∀ r, row = some r → ¬ V r ∧ w.heap.size ≤ r) : GdI w pre V B :=
  ⟨h.1, h.2.1.grown hg (fun e => (hr _ e.symm).1 ((h.1 _).2 rfl)), h.2.2.1.grown hg h.2.2.1.size (fun k e => (hr k e).2), h.2.2.2⟩

/-- How a round of isGood begins. -/
def gdAct (w w2 : World) (t : Lm) (u : Int) (b : Nat) (x : Spot × Nat) : Act :=
  { tmps := #[.pointer (some ⟨b, 0, none⟩), undef, .pointer (some ⟨w.heap.size, 0, none⟩), .int .i64 150, .int .i64 40, undef, .pointer (some ⟨x.2, 0, none⟩), .tuple #[.int .i64 150, .int .i64 40], .pointer (some ⟨b, 0, none⟩), .pointer (some ⟨b, 0, none⟩), .pointer (some ⟨b, 0, none⟩),
      .agg #[.int .i64 t.kd, .int .i64 t.nm, .int .i64 u], .iface 51 (.agg #[.int .i64 t.kd, .int .i64 t.nm, .int .i64 u]), .tuple #[.int .i64 150, .int .i64 40], .int .i64 150, .int .i64 40, .pointer (some ⟨b, 0, none⟩), .pointer (some ⟨b, 0, none⟩), .pointer (some ⟨b, 4, none⟩),
      .int .i64 (t.sz : Int), .int .i64 150, .bool (decide ((150 : Int) < (t.sz : Int))), .bool (decide ((150 : Int) < (t.sz : Int))), .pointer (some ⟨b, 0, none⟩), .pointer (some ⟨b, 0, none⟩), .pointer (some ⟨b, 5, none⟩), .int .i64 (t.dp : Int), .int .i64 40, .bool (decide ((40 : Int) < (t.dp : Int))),
      .bool (decide ((150 : Int) < (t.sz : Int)) || decide ((40 : Int) < (t.dp : Int))), .pointer (some ⟨b, 0, none⟩), .func (.func 79) #[] #[.pointer (some ⟨w2.heap.size, 0, none⟩)], .agg #[.int .i64 (x.1.at_ : Int), .int .i64 x.1.up, .int .i64 (x.1.lam : Int)], .pointer (some ⟨x.2, 0, none⟩), undef, undef, undef, undef, undef, undef, undef], defers := [] }
set_option maxRecDepth 100000 in
set_option maxHeartbeats 8000000 in
theorem isGood_any (t : Lm) (b : Nat) (P : Nat → Prop) (w : World) (hT : TrIn w P t b) (hs : t.sz ≤ 1000000) :
    Calls Tryd.prog 61 #[.pointer (some ⟨b, 0, none⟩)] w fun e w' => e = .returned (.bool t.good) ∧ Below w.heap.size w w' := by
  refine (callsIn_wide (n := 4)).1 ?_
  have HT := hideT' hT
  obtain ⟨u, k0, k1, k2⟩ := hT.own3
  have k4 := hT.size
  have k5 := hT.deep
  have hbl := hT.lt
  have hds := t.dp_sz
  obtain ⟨r, hr⟩ : ∃ r, r = t.good := ⟨_, rfl⟩
  rw [← hr]
  have HR := hideT' hr
  clear hT hr
  have hB1 : Below w.heap.size w (w.alloc (.cells #[.bool false] 4)) := (Below.refl _ _).alloc (Nat.le_refl _) _
  have HB2 : Hid (Below w.heap.size w ((w.alloc (.cells #[.bool false] 4)).alloc (.cells #[.int .i64 t.kd, .int .i64 t.nm, .int .i64 u] 51))) := hB1.alloc (by simp) _
  have HRO : Hid (RowAt ((w.alloc (.cells #[.bool false] 4)).alloc (.cells #[.int .i64 t.kd, .int .i64 t.nm, .int .i64 u] 51)) w.heap.size 4 #[.bool false]) := RowAt.old (RowAt.new _ _ _) _
  clear hB1
  refine callsIn_of_wp_marks Tryd.func61 rfl trivial ?_ rfl
  simp only [Tryd.ntmps61, List.size_toArray, List.length_cons, List.length_nil, Nat.reduceAdd, Nat.reduceSub, Array.replicate_succ, Array.replicate_zero, List.push_toArray, List.append_toArray, List.nil_append, List.cons_append]
  gi_wp2
  refine ⟨fun _ _ => trivial, ?_⟩
  rw [meth_limits 313]
  gi_wp2
  gi_at_call 145
  refine (callsIn_wide.2 (limits_any t.kd t.nm u _)).mono ?_
  rintro e w2 ⟨rfl, hw2⟩
  have hB2 : Below w.heap.size w w2 := by rw [hw2]; exact HB2.out
  have hR2 : RowAt w2 w.heap.size 4 #[.bool false] := by rw [hw2]; exact HRO.out
  have m4 : w2.cell? ⟨b, 4, none⟩ = some (.int .i64 (t.sz : Int)) := by rw [hB2.cell (p := ⟨b, 4, none⟩) hbl]; exact k4
  have m5 : w2.cell? ⟨b, 5, none⟩ = some (.int .i64 (t.dp : Int)) := by rw [hB2.cell (p := ⟨b, 5, none⟩) hbl]; exact k5
  have hfr : w2.frozen? ⟨w.heap.size, 0, none⟩ = false := frozen_of_row w2 w.heap.size _ _ _ hR2
  have hcc : w2.cell? ⟨w.heap.size, 0, none⟩ = some (.bool false) := by rw [cell_of_row _ _ _ _ _ _ hR2]; rfl
  have HW2 := hideT' (And.intro hB2 hR2)
  have hsz2 := hR2.lt
  clear hw2 hB2 hR2 k0 k1 k2 k4 k5 HB2 HRO
  by_cases hbig : t.sz ≤ 150 ∧ t.dp ≤ 40
  · have HGD : Hid (r = t.ok) := by
      unfold Hid; rw [HR.out]; unfold Lm.good; rw [decide_eq_true hbig.1, decide_eq_true hbig.2]; simp
    have h1 : ¬ (150 : Int) < (t.sz : Int) := by omega
    have h2 : ¬ (40 : Int) < (t.dp : Int) := by omega
    clear hbig
    gi_wp2
    refine ⟨trivial, ?_⟩
    gi_at_call 62
    refine (callsIn_wide.2 (walk_any b _)).mono ?_
    rintro e w3 ⟨rfl, hw3⟩
    have hs3 : w3.heap.size = w2.heap.size + 1 := by rw [hw3]; simp
    have hB23 : Below w2.heap.size w2 w3 := by rw [hw3]; exact (Below.refl _ _).alloc (Nat.le_refl _) _
    have hB3 : Below w.heap.size w w3 := HW2.out.1.trans (hB23.mono HW2.out.1.size)
    have hI0 : GdI w [] (fun z => z = w.heap.size) w3 := ⟨fun z => Iff.rfl, HW2.out.2.below hB23 hsz2, hB3, fun y hy => by simp at hy⟩
    have hcx : w3.cell? ⟨w2.heap.size, 0, none⟩ = some (.pointer (some ⟨b, 0, none⟩)) := by
      rw [hw3, cell_of_row _ _ _ _ _ _ (RowAt.new w2 54 #[.pointer (some ⟨b, 0, none⟩)])]; rfl
    have HI0 := hideT' hI0
    have HB3 := hideT' hB3
    have HCX := hideT' hcx
    clear hw3 hI0 hB3 hcx hB23
    gi_wp2
    refine range_ret (gf := 79) (lb := #[.pointer (some ⟨w2.heap.size, 0, none⟩)]) (by rfl) (enters_of Tryd.func79 (by kernel_rfl) rfl) encS (fun x => rfl) _ _ _ (walk_seq w2.heap.size t b hs)
      (fun pre x V V' W hVV h => ⟨h.1, TrIn.mono (fun z hz _ hv => hz (hVV z hv)) h.2⟩)
      (GdI w) (fun s V A h z hz => by rw [(h.1 z).1 hz]; exact h.2.1.lt) (fun s V A B row h hg hr => h.step hg (fun r e => ⟨(hr r e).1, by have := (hr r e).2; omega⟩)) (fun z => z = w.heap.size) HI0.out ?need
      (fun pre x V c W => c = gdAct w w2 t u b x ∧ (∃ post, t.walk 0 (-1) 0 = pre.map Prod.fst ++ x.1 :: post) ∧ GdI w pre V W ∧ TrIn W (fun z => ¬ V z) x.1.t x.2) ?ax
      (fun W => RowAt W w.heap.size 4 #[.bool false] ∧ Below w.heap.size w W ∧ t.ok = false) ?rf ?assign ?body ?leave ?done
    case need =>
      intro B V hg hV
      refine ⟨TrIn.keep (w := w) (P := P) (by have := hg.size; omega) (fun x _ hx => ?_) (fun x _ hx hv => ?_) HT.out, ?_⟩
      · rw [hg.block x (by omega) (by simp)]; exact HB3.out.block x hx
      · rcases hV x hv with h | h <;> omega
      · rw [World.cell?_of_block (w := w3) (a := ⟨w2.heap.size, 0, none⟩) (hg.block _ (by simp; omega) (by simp))]; exact HCX.out
    case ax =>
      rintro s x V c A B row ⟨h1, h2, h3, h5⟩ hg hr
      exact ⟨h1, h2, h3.step hg (fun r e => ⟨(hr r e).1.1, by have := (hr r e).1.2; omega⟩), TrIn.turn hg (fun r e => (hr r e).2) h5⟩
    case rf =>
      rintro A B row ⟨h1, h2, h3⟩ hg hr
      exact ⟨TrIn.turn.row_same h1 hg (fun r e => (hr r e).2), h2.grown hg h2.size (fun k e => by have := (hr k e).1; omega), h3⟩
    case assign =>
      intro l pre x V W K hNx hI hK
      have HI := hideT' hI
      have HK := hideT' hK
      have HNX := hideT' hNx
      unfold encS
      clear hI hK hNx
      gi_wp2
      exact HK.out _ _ V ⟨rfl, HNX.out.1, HI.out, HNX.out.2⟩ (MoreB.refl _ _) (KeepsB.refl _ _)
    case body =>
      rintro l pre x V c W ⟨rfl, ⟨post, hpo⟩, hI, hTx⟩
      unfold gdAct
      obtain ⟨u2, d0, d1, d2⟩ := hTx.own3
      have hok := okN_ar x.1.t u2
      obtain ⟨kd, hkd⟩ : ∃ kd, kd = x.1.t.kd := ⟨_, rfl⟩
      obtain ⟨nm, hnm⟩ : ∃ nm, nm = x.1.t.nm := ⟨_, rfl⟩
      rw [← hkd] at d0 hok
      rw [← hnm] at d1 hok
      obtain ⟨ar, har⟩ : ∃ ar, ar = arN ⟨kd, nm, u2⟩ := ⟨_, rfl⟩
      have HAR : Hid (∀ w, Calls Tryd.prog 144 #[.agg #[.int .i64 kd, .int .i64 nm, .int .i64 u2]] w fun e w' => e = .returned (.int .i64 ar) ∧ w' = w.alloc (.cells #[.int .i64 kd, .int .i64 nm, .int .i64 u2] 51)) := by
        unfold Hid; rw [har]; exact arity_any kd nm u2
      rw [← har] at hok
      have hR := hI.2.1
      have hcr : W.cell? ⟨w.heap.size, 0, none⟩ = some (.bool false) := by rw [cell_of_row _ _ _ _ _ _ hR]; rfl
      have hfrz : W.frozen? ⟨w.heap.size, 0, none⟩ = false := frozen_of_row W w.heap.size _ _ _ hR
      have hrl := hR.lt
      have HI := hideT' hI
      have HPO := hideT' hpo
      clear hkd hnm har hR hTx hI hpo
      have hal : Below W.heap.size W (W.alloc (.cells #[.int .i64 kd, .int .i64 nm, .int .i64 u2] 51)) := (Below.refl _ _).alloc (Nat.le_refl _) _
      have HAL := hideT' hal
      clear hal
      cases hq : x.1.t.okN with
      | false =>
        have hneg : ar < 0 := by rw [hq] at hok; simpa using hok
        have HOK := hideT' (ok_bad HPO.out hq)
        clear hok hq
        gi_wp2
        refine ⟨fun _ _ => trivial, ?_⟩
        rw [meth_arity 313]
        gi_wp2
        refine (CallsIn.inRound l (callsIn_wide.2 (HAR.out _))).mono ?_
        rintro e w4 ⟨rfl, rfl⟩
        gi_wp2
        have hst : RowAt (W.setCell ⟨w.heap.size, 0, none⟩ (.bool false)) w.heap.size 4 #[.bool false] := heap_setCell_same W w.heap.size 0 _ _ (.bool false) HI.out.2.1
        have hbs : Below w.heap.size w (W.setCell ⟨w.heap.size, 0, none⟩ (.bool false)) := HI.out.2.2.1.setCell (by simp) _
        refine ⟨⟨RowAt.old hst _, hbs.alloc hbs.size _, HOK.out⟩, ⟨by simp, fun z hz hv => ?_⟩⟩
        have hzn : z ≠ w.heap.size := fun e => hv ((HI.out.1 z).2 e)
        rw [Below.heap_alloc _ _ _ (by simp; exact hz), heap_setCell_other _ ⟨w.heap.size, 0, none⟩ z _ (fun e => hzn e)]
      | true =>
        have hneg : ¬ ar < 0 := by rw [hq] at hok; simpa using hok
        have HQ := hideT' hq
        clear hok hq
        gi_wp2
        refine ⟨fun _ _ => trivial, ?_⟩
        rw [meth_arity 313]
        gi_wp2
        refine (CallsIn.inRound l (callsIn_wide.2 (HAR.out _))).mono ?_
        rintro e w4 ⟨rfl, rfl⟩
        gi_wp2
        refine ⟨V, ?_, MoreB.refl _ _, KeepsB.below HAL.out⟩
        have h1 := HI.out.step (row := none) ⟨HAL.out.os, HAL.out.tape, HAL.out.output, HAL.out.size, fun k hk _ => HAL.out.block k hk⟩ (fun r e => by cases e)
        refine ⟨h1.1, h1.2.1, h1.2.2.1, fun y hy => ?_⟩
        rcases List.mem_append.1 hy with hy | hy
        · exact h1.2.2.2 y hy
        · rw [List.mem_singleton] at hy
          subst hy
          exact HQ.out
    case leave =>
      rintro D W hD ⟨hR, hB, hno⟩ hK
      have HF : Hid (r = false) := by unfold Hid; rw [HGD.out, hno]
      have HRB := hideT' (And.intro hR hB)
      have HK := hideT' hK
      clear hR hB hno hK
      gi_wp2
      have hR' : RowAt (W.putObj D (.deferred none)) w.heap.size 4 #[.bool false] := row_put HRB.out.1 HK.out rfl
      exact leave_marks (v := .bool false) HK.out (results_one Tryd.results61 _ _ w.heap.size (.bool false) rfl (by rw [cell_of_row _ _ _ _ _ _ hR']; rfl)) ⟨by rw [HF.out], below_put HRB.out.2 (by omega) HRB.out.2.size⟩
    case done =>
      rintro D ys V W hD hS ⟨hV, hR, hB, hall⟩ hVD hK
      have HF : Hid (r = true) := by unfold Hid; rw [HGD.out]; exact ok_walk hS hall
      have hcr : W.cell? ⟨w.heap.size, 0, none⟩ = some (.bool false) := by rw [cell_of_row _ _ _ _ _ _ hR]; rfl
      have hfrz : W.frozen? ⟨w.heap.size, 0, none⟩ = false := frozen_of_row W w.heap.size _ _ _ hR
      have hst : RowAt (W.setCell ⟨w.heap.size, 0, none⟩ (.bool true)) w.heap.size 4 #[.bool true] := heap_setCell_same W w.heap.size 0 _ _ (.bool true) hR
      have hDn : D ≠ w.heap.size := fun e => by rw [e] at hK; rw [hR] at hK; cases hK
      have hK2 : (W.setCell ⟨w.heap.size, 0, none⟩ (.bool true)).heap[D]? = some (.deferred (some [])) := by rw [heap_setCell_other W ⟨w.heap.size, 0, none⟩ D _ (fun e => hDn e)]; exact hK
      have HRB := hideT' (And.intro hst (hB.setCell (p := ⟨w.heap.size, 0, none⟩) (by simp) (.bool true)))
      have HK := hideT' hK2
      clear hR hB hall hK hst hK2 hV
      gi_wp2
      have hR' : RowAt ((W.setCell ⟨w.heap.size, 0, none⟩ (.bool true)).putObj D (.deferred none)) w.heap.size 4 #[.bool true] := row_put HRB.out.1 HK.out rfl
      exact leave_marks (v := .bool true) HK.out (results_one Tryd.results61 _ _ w.heap.size (.bool true) rfl (by rw [cell_of_row _ _ _ _ _ _ hR']; rfl)) ⟨by rw [HF.out], below_put HRB.out.2 (by omega) HRB.out.2.size⟩
  · have HF : Hid (r = false) := by
      unfold Hid; rw [HR.out]; unfold Lm.good
      have : (decide (t.sz ≤ 150) && decide (t.dp ≤ 40)) = false := by simpa using hbig
      rw [this]; simp
    have hB5 : Below w.heap.size w (w2.setCell ⟨w.heap.size, 0, none⟩ (.bool false)) := HW2.out.1.setCell (by simp) _
    have hc5 : (w2.setCell ⟨w.heap.size, 0, none⟩ (.bool false)).cell? ⟨w.heap.size, 0, none⟩ = some (.bool false) := by
      have := heap_setCell_same w2 w.heap.size 0 _ _ (.bool false) HW2.out.2
      rw [cell_of_row _ _ _ _ _ _ this]; rfl
    by_cases h1 : (150 : Int) < (t.sz : Int)
    · gi_wp2
      exact ⟨_, results_one Tryd.results61 _ _ w.heap.size (.bool false) rfl hc5, by rw [HF.out], hB5⟩
    · have h2 : (40 : Int) < (t.dp : Int) := by omega
      gi_wp2
      exact ⟨_, results_one Tryd.results61 _ _ w.heap.size (.bool false) rfl hc5, by rw [HF.out], hB5⟩
end Go.Proofs.YtgolfbjfopoeeaaDoor

/-
  What tellTree answers.
-/
namespace Go.Proofs.YtgolfbjfopoeeaaDoor
open Go.RowKit Go.Shelf BL
set_option linter.unusedVariables false
attribute [local go_sem] Oper.semAt_some

set_option maxHeartbeats 1000000 in
theorem under_any (k n u up : Int) (w : World) :
    Calls Tryd.prog 146 #[.agg #[.int .i64 k, .int .i64 n, .int .i64 u], .int .i64 up] w fun e w' => e = .returned (.agg #[.int .i64 k, .int .i64 n, .int .i64 up]) ∧ Below w.heap.size w w' := by
  have hz := zero_term.1
  have hRx : RowAt ((w.alloc (.cells #[.int .i64 k, .int .i64 n, .int .i64 up] 51)).alloc (.cells #[.int .i64 k, .int .i64 n, .int .i64 up] 51)) (w.heap.size + 1) 51 #[.int .i64 k, .int .i64 n, .int .i64 up] := by
    have := RowAt.new (w.alloc (.cells #[.int .i64 k, .int .i64 n, .int .i64 up] 51)) 51 #[.int .i64 k, .int .i64 n, .int .i64 up]
    rwa [World.size_alloc] at this
  have HRX := hideT' hRx
  clear hRx
  go_enter Tryd.func146, Tryd.ntmps146
  go_wp2
  refine bodyPost_ret (v := .agg #[.int .i64 k, .int .i64 n, .int .i64 up]) (results_cell_row Tryd.results146 _ _ (w.heap.size + 1) 51 #[.int .i64 k, .int .i64 n, .int .i64 up] (0, 0) _ rfl HRX.out Tryd.underlying51 rfl zero_term.2) rfl ⟨rfl, ?_⟩
  exact ((Below.refl _ _).alloc (Nat.le_refl _) _).alloc (by simp) _

theorem lateR {ops : Array Oper} {Q : Exit → Act → World → Prop} {a : Act} {w : World} {id l n : Nat} (late : List Nat) (S : World → Prop) (hm : Tryd.prog.follows .mixedOrders = true) (hd : noDefer ops = true)
    (h : BL.wpAnyL Tryd.prog .any ops (Calm Q) late S ops.size (Array.replicate ops.size false) a w.drew) : (Code.region id ops true).wpIn (Fence.wide.inRound l) n Tryd.prog Q a w :=
  wpIn_mono (region_round hm hd (fun ⟨_, _, h⟩ => h) (BL.wpAny_of_late _ _ _ _ h)) Calm.imp
theorem one_slterm : (Tryd.prog.info? 26).map (·.size) = some 1 := by kernel_rfl
theorem term_cells (w : World) (d : Int × Int × Int) : ∀ j u, (termL d)[j]? = some u → (w.alloc (.cells #[.int .i64 d.1, .int .i64 d.2.1, .int .i64 d.2.2] 51)).cell? ((⟨w.heap.size, 0, none⟩ : Addr).add j) = some u := fun j u hu => by
  have e : (⟨w.heap.size, 0, none⟩ : Addr).add j = ⟨w.heap.size, j, none⟩ := by unfold Addr.add; split <;> simp_all
  rw [e, cell_of_row _ w.heap.size j _ 51 (0, 0) (RowAt.new w 51 #[.int .i64 d.1, .int .i64 d.2.1, .int .i64 d.2.2])]
  simpa [termL] using hu
/-- The nodes of places that a walk came by. -/
def spotsT (pre : List (Spot × Nat)) : List (Int × Int × Int) := pre.map fun x => (x.1.t.kd, x.1.t.nm, x.1.up)
theorem spotsT_app (pre : List (Spot × Nat)) (x : Spot × Nat) : spotsT (pre ++ [x]) = spotsT pre ++ [(x.1.t.kd, x.1.t.nm, x.1.up)] := by simp [spotsT]
theorem spotsT_len (pre : List (Spot × Nat)) : (spotsT pre).length = pre.length := by simp [spotsT]
theorem spotsT_all {pre : List (Spot × Nat)} {t : Lm} (h : pre.map Prod.fst = t.walk 0 (-1) 0) : spotsT pre = tri (t.flat 0 (-1)) := by
  unfold tri
  rw [← Lm.walk_flat t 0 (-1) 0, ← h, List.map_map, List.map_map]
  rfl
def TellI (w : World) (pre : List (Spot × Nat)) (V : Nat → Prop) (W : World) : Prop :=
  ∃ v, (∀ z, V z ↔ (z = w.heap.size ∨ v.ownBlock = some z)) ∧ RowAt W w.heap.size 26 #[v] ∧ OwnR W (w.heap.size + 1) v 51 termL 3 (spotsT pre) ∧ Below w.heap.size w W
theorem TellI.lt {w : World} {pre : List (Spot × Nat)} {V : Nat → Prop} {W : World} (h : TellI w pre V W) : ∀ z, V z → z < W.heap.size := by
  obtain ⟨v, hV, hR, hO, hB⟩ := h
  intro z hz
  rcases (hV z).1 hz with rfl | hz
  · exact hR.lt
  · exact (hO.lt z hz).2
theorem TellI.step {w : World} {pre : List (Spot × Nat)} {V : Nat → Prop} {A B : World} {row : Option Nat} (h : TellI w pre V A) (hg : A.grownBy B row) (hr : ∀ r, row = some r → ¬ V r ∧ w.heap.size ≤ r) : TellI w pre V B := by
  obtain ⟨v, hV, hR, hO, hB⟩ := h
  refine ⟨v, hV, hR.grown hg (fun e => (hr _ e.symm).1 ((hV _).2 (.inl rfl))), own_keep hO (fun g hgo => hg.block g (hO.lt g hgo).2 (fun e => (hr _ e.symm).1 ((hV _).2 (.inr hgo)))), hB.grown hg hB.size (fun k e => (hr k e).2)⟩
/-- How a round of tellTree begins. -/
def tellAct (w : World) (b sb : Nat) (x : Spot × Nat) : Act := { tmps := #[.pointer (some ⟨b, 0, none⟩), undef, .slice none 0 0, .bool false, .pointer (some ⟨w.heap.size, 0, none⟩), .pointer (some ⟨sb, 0, none⟩), .pointer (some ⟨x.2, 0, none⟩), .pointer (some ⟨b, 0, none⟩), .bool true, .bool false, .pointer (some ⟨b, 0, none⟩), .func (.func 79) #[] #[.pointer (some ⟨w.heap.size + 1, 0, none⟩)], .agg #[.int .i64 (x.1.at_ : Int), .int .i64 x.1.up, .int .i64 (x.1.lam : Int)], .pointer (some ⟨x.2, 0, none⟩), undef, undef, undef, undef, undef, undef, undef, undef, undef, undef, undef, undef], defers := [] }
/-- What tellTree answers. -/
def ToldT (w : World) (t : Lm) (e : Ending) (w' : World) : Prop :=
  ∃ u, e = .returned (.tuple #[u, .bool t.good]) ∧ OwnR w' w.heap.size u 51 termL 3 (if t.good then tri (t.flat 0 (-1)) else [])

set_option maxRecDepth 100000 in
set_option maxHeartbeats 8000000 in
theorem tellTree_any (t : Lm) (b : Nat) (P : Nat → Prop) (w0 : World) (hT : TrIn w0 P t b) (hs : t.sz ≤ 1000000) :
    Calls Tryd.prog 35 #[.pointer (some ⟨b, 0, none⟩)] w0 fun e w' => ToldT w0 t e w' ∧ Below w0.heap.size w0 w' := by
  refine (callsIn_wide (n := 4)).1 ?_
  have HT0 := hideT' hT
  have HG := hideT' (isGood_any t b P w0 hT hs)
  clear hT
  obtain ⟨r, hr⟩ : ∃ r, r = t.good := ⟨_, rfl⟩
  rw [← hr] at HG
  have HR := hideT' hr
  clear hr
  refine callsIn_of_wp_marks Tryd.func35 rfl trivial ?_ rfl
  simp only [Tryd.ntmps35, List.size_toArray, List.length_cons, List.length_nil, Nat.reduceAdd, Nat.reduceSub, Array.replicate_succ, Array.replicate_zero, List.push_toArray, List.append_toArray, List.nil_append, List.cons_append]
  gi_wp2
  refine ⟨trivial, ?_⟩
  gi_at_call 61
  refine (callsIn_wide.2 HG.out).mono ?_
  rintro e w ⟨rfl, hB0⟩
  have HB0 := hideT' hB0
  have HT : Hid (TrIn w P t b) := TrIn.below hB0 HT0.out
  clear hB0
  cases r with
  | false =>
    gi_wp2
    exact ⟨_, (by simp [results, Tryd.results35, go_sem]; rfl), ⟨.slice none 0 0, by rw [← HR.out], by rw [← HR.out]; exact World.ownsRow_nil _ _ _ _⟩, HB0.out⟩
  | true =>
  have h150 : t.sz ≤ 150 := (Lm.good_sz HR.out.symm).1
  gi_wp2
  refine ⟨trivial, ?_⟩
  gi_at_call 62
  refine (callsIn_wide.2 (walk_any b _)).mono ?_
  rintro e w3 ⟨rfl, hw3⟩
  have hs3 : w3.heap.size = w.heap.size + 2 := by rw [hw3]; simp
  have hB3 : Below w.heap.size w w3 := by rw [hw3]; exact ((Below.refl _ _).alloc (Nat.le_refl _) _).alloc (by simp) _
  have hI0 : TellI w [] (fun z => z = w.heap.size) w3 := by
    refine ⟨.slice none 0 0, fun z => ?_, ?_, World.ownsRow_nil _ _ _ _, hB3⟩
    · simp [Value.ownBlock]
    · rw [hw3]; exact RowAt.old (RowAt.new _ _ _) _
  have hcx : w3.cell? ⟨w.heap.size + 1, 0, none⟩ = some (.pointer (some ⟨b, 0, none⟩)) := by
    have hr : RowAt w3 (w.heap.size + 1) 54 #[.pointer (some ⟨b, 0, none⟩)] := by
      rw [hw3]
      have := RowAt.new (w.alloc (.cells #[.slice none 0 0] 26)) 54 #[.pointer (some ⟨b, 0, none⟩)]
      rwa [World.size_alloc] at this
    rw [cell_of_row _ _ _ _ _ _ hr]; rfl
  have HI0 := hideT' hI0
  have HB3 := hideT' hB3
  have HCX := hideT' hcx
  clear hw3 hI0 hB3 hcx
  simp only [World.size_alloc]
  gi_wp2
  refine range_own (gf := 79) (lb := #[.pointer (some ⟨w.heap.size + 1, 0, none⟩)]) (by rfl) (enters_of Tryd.func79 (by kernel_rfl) rfl) encS (fun x => rfl) _ _ _ (walk_seq (w.heap.size + 1) t b hs)
    (fun pre x V V' W hVV h => ⟨h.1, TrIn.mono (fun z hz _ hv => hz (hVV z hv)) h.2⟩)
    (TellI w) (fun s V A h => h.lt) (fun s V A B row h hg hr => h.step hg (fun r e => ⟨(hr r e).1, by have := (hr r e).2; omega⟩)) (fun z => z = w.heap.size) HI0.out ?need
    (fun pre x V c W => ∃ sb, c = tellAct w b sb x ∧ pre.length < t.sz ∧ TellI w pre V W ∧ RowAt W sb 112 #[.int .i64 (x.1.at_ : Int), .int .i64 x.1.up, .int .i64 (x.1.lam : Int)] ∧ ¬ V sb ∧ TrIn W (fun z => ¬ V z) x.1.t x.2) ?ax ?assign ?body ?done
  case need =>
    intro B V hg hV
    refine ⟨TrIn.keep (w := w) (P := P) (by have := hg.size; omega) (fun x _ hx => ?_) (fun x _ hx hv => ?_) HT.out, ?_⟩
    · rw [hg.block x (by omega) (by simp)]; exact HB3.out.block x hx
    · rcases hV x hv with h | h <;> omega
    · rw [World.cell?_of_block (w := w3) (a := ⟨w.heap.size + 1, 0, none⟩) (hg.block _ (by simp; omega) (by simp))]; exact HCX.out
  case ax =>
    rintro s x V c A B row ⟨sb, h1, hl, h2, h3, h4, h5⟩ hg hr
    exact ⟨sb, h1, hl, h2.step hg (fun r e => ⟨(hr r e).1.1, by have := (hr r e).1.2; omega⟩), TrIn.turn.row_same h3 hg (fun r e => (hr r e).2), h4, TrIn.turn hg (fun r e => (hr r e).2) h5⟩
  case assign =>
    intro l pre x V W K hNx hI hK
    have HI := hideT' hI
    have HK := hideT' hK
    have HNX := hideT' hNx
    unfold encS
    clear hI hK hNx
    gi_wp2
    have hal : Below W.heap.size W (W.alloc (.cells #[.int .i64 (x.1.at_ : Int), .int .i64 x.1.up, .int .i64 (x.1.lam : Int)] 112)) := (Below.refl _ _).alloc (Nat.le_refl _) _
    obtain ⟨⟨post, hpo⟩, hTx⟩ := HNX.out
    have hlen := congrArg List.length hpo
    rw [Lm.walk_len, List.length_append, List.length_map, List.length_cons] at hlen
    exact HK.out _ _ V ⟨W.heap.size, rfl, by omega, HI.out.step (row := none) ⟨hal.os, hal.tape, hal.output, hal.size, fun k hk _ => hal.block k hk⟩ (fun r e => by cases e), RowAt.new _ _ _, fun h => by have := HI.out.lt _ h; omega, TrIn.below hal hTx⟩ (MoreB.refl _ _) (KeepsB.below hal)
  case body =>
    rintro l pre x V c W ⟨sb, rfl, hpl, hI, hR, hVs, hTx⟩
    unfold tellAct
    obtain ⟨v, hV, hRv, hO, hB⟩ := hI
    obtain ⟨ov, cap, hvv⟩ := own_formT hO
    rw [spotsT_len] at hvv
    subst hvv
    obtain ⟨u2, d0, d1, d2⟩ := hTx.own3
    obtain ⟨kd, hkd⟩ : ∃ kd, kd = x.1.t.kd := ⟨_, rfl⟩
    obtain ⟨nm, hnm⟩ : ∃ nm, nm = x.1.t.nm := ⟨_, rfl⟩
    rw [← hkd] at d0
    rw [← hnm] at d1
    have HKN : Hid ((x.1.t.kd, x.1.t.nm, x.1.up) = (kd, nm, x.1.up)) := by unfold Hid; rw [hkd, hnm]
    have hxl := hTx.lt
    have hwz := hRv.lt
    have hsb := hR.lt
    have HXO : Hid ((Value.slice ov pre.length cap).ownBlock ≠ some x.2) := fun e => hTx.inP ((hV _).2 (.inr e))
    have HBO : Hid ((Value.slice ov pre.length cap).ownBlock ≠ some w.heap.size) := fun e => by have := (hO.lt _ e).1; omega
    have HSO : Hid ((Value.slice ov pre.length cap).ownBlock ≠ some sb) := fun e => hVs ((hV _).2 (.inr e))
    have HV := hideT' hV
    have HRV := hideT' hRv
    have HRS := hideT' hR
    have HO : Hid (W.ownsRow (w.heap.size + 1) 51 3 (.slice ov pre.length cap) pre.length ((spotsT pre).flatMap termL)) := by unfold Hid; have := hO; unfold OwnR at this; rw [spotsT_len] at this; exact this
    have HB := hideT' hB
    have HD := hideT' (And.intro d0 (And.intro d1 d2))
    have hS : RowAt W.drew w.heap.size 26 #[.slice ov pre.length cap] ∧ RowAt W.drew sb 112 #[.int .i64 (x.1.at_ : Int), .int .i64 x.1.up, .int .i64 (x.1.lam : Int)] ∧ W.drew.cell? ⟨x.2, 0, none⟩ = some (.int .i64 kd) ∧ W.drew.cell? ⟨x.2, 1, none⟩ = some (.int .i64 nm) ∧ W.drew.cell? ⟨x.2, 2, none⟩ = some (.int .i64 u2) := ⟨hRv, hR, d0, d1, d2⟩
    clear hkd hnm hTx hV hRv hR hO hB hVs d0 d1 d2
    gi_wp2
    refine lateR [11] (fun w' => RowAt w' w.heap.size 26 #[.slice ov pre.length cap] ∧ RowAt w' sb 112 #[.int .i64 (x.1.at_ : Int), .int .i64 x.1.up, .int .i64 (x.1.lam : Int)] ∧ w'.cell? ⟨x.2, 0, none⟩ = some (.int .i64 kd) ∧ w'.cell? ⟨x.2, 1, none⟩ = some (.int .i64 nm) ∧ w'.cell? ⟨x.2, 2, none⟩ = some (.int .i64 u2)) (by kernel_rfl) (by kernel_rfl) ?_
    refine late_val 0 (some 14) rfl rfl (by kernel_rfl) (by kernel_rfl) (by kernel_rfl) [10, 11] (by kernel_rfl) calm_put rfl (.slice ov pre.length cap) (fun w' h => by have c : w'.cell? ⟨w.heap.size, 0, none⟩ = some (.slice ov pre.length cap) := (by rw [cell_of_row w' _ _ _ _ _ h.1]; rfl); go_simp) hS ?_
    simp only [Act.put, List.setIfInBounds_toArray, List.set_cons_zero, List.set_cons_succ]
    refine late_val 1 (some 15) rfl rfl (by kernel_rfl) (by kernel_rfl) (by kernel_rfl) [2, 3, 4, 5, 8, 9, 10, 11] (by kernel_rfl) calm_put rfl (.pointer (some ⟨x.2, 0, none⟩)) (fun _ _ => by go_simp) hS ?_
    simp only [Act.put, List.setIfInBounds_toArray, List.set_cons_zero, List.set_cons_succ]
    refine late_val 2 (some 16) rfl rfl (by kernel_rfl) (by kernel_rfl) (by kernel_rfl) [3, 4, 5, 8, 9, 10, 11] (by kernel_rfl) calm_put rfl (.pointer (some ⟨x.2, 0, none⟩)) (fun _ _ => by go_simp) hS ?_
    simp only [Act.put, List.setIfInBounds_toArray, List.set_cons_zero, List.set_cons_succ]
    refine late_val 3 (some 17) rfl rfl (by kernel_rfl) (by kernel_rfl) (by kernel_rfl) [4, 5, 8, 9, 10, 11] (by kernel_rfl) calm_put rfl (.pointer (some ⟨x.2, 0, none⟩)) (fun _ _ => by go_simp) hS ?_
    simp only [Act.put, List.setIfInBounds_toArray, List.set_cons_zero, List.set_cons_succ]
    refine late_val 4 (some 18) rfl rfl (by kernel_rfl) (by kernel_rfl) (by kernel_rfl) [5, 8, 9, 10, 11] (by kernel_rfl) calm_put rfl (.agg #[.int .i64 kd, .int .i64 nm, .int .i64 u2]) (fun w' h => by obtain ⟨d0, d1, d2⟩ := h.2.2; go_simp) hS ?_
    simp only [Act.put, List.setIfInBounds_toArray, List.set_cons_zero, List.set_cons_succ]
    refine late_val 5 (some 19) rfl rfl (by kernel_rfl) (by kernel_rfl) (by kernel_rfl) [8, 9, 10, 11] (by kernel_rfl) calm_put rfl (.iface 51 (.agg #[.int .i64 kd, .int .i64 nm, .int .i64 u2])) (fun _ _ => by go_simp) hS ?_
    simp only [Act.put, List.setIfInBounds_toArray, List.set_cons_zero, List.set_cons_succ]
    refine late_val 6 (some 20) rfl rfl (by kernel_rfl) (by kernel_rfl) (by kernel_rfl) [7, 8, 9, 10, 11] (by kernel_rfl) calm_put rfl (.pointer (some ⟨sb, 1, none⟩)) (fun _ _ => by go_simp) hS ?_
    simp only [Act.put, List.setIfInBounds_toArray, List.set_cons_zero, List.set_cons_succ]
    refine late_val 7 (some 21) rfl rfl (by kernel_rfl) (by kernel_rfl) (by kernel_rfl) [8, 9, 10, 11] (by kernel_rfl) calm_put rfl (.int .i64 x.1.up) (fun w' h => by have c : w'.cell? ⟨sb, 1, none⟩ = some (.int .i64 x.1.up) := (by rw [cell_of_row w' _ _ _ _ _ h.2.1]; rfl); go_simp) hS ?_
    simp only [Act.put, List.setIfInBounds_toArray, List.set_cons_zero, List.set_cons_succ]
    refine late_call 8 (some 22) (by kernel_rfl) rfl rfl rfl 146 #[.agg #[.int .i64 kd, .int .i64 nm, .int .i64 u2], .int .i64 x.1.up] (by go_simp; rw [meth_under 313]; go_simp) _ (under_any kd nm u2 x.1.up W.drew) ?_
    rintro e w5 ⟨rfl, hW5⟩
    have hW5 : Below W.heap.size W w5 := ⟨hW5.os, hW5.tape, hW5.output, hW5.size, hW5.block⟩
    have hs5 := hW5.size
    have keepS : ∀ w', w5.heap.size ≤ w'.heap.size → (∀ b, b < W.heap.size → (Value.slice ov pre.length cap).ownBlock ≠ some b → w'.heap[b]? = W.heap[b]?) → (RowAt w' w.heap.size 26 #[.slice ov pre.length cap] ∧ RowAt w' sb 112 #[.int .i64 (x.1.at_ : Int), .int .i64 x.1.up, .int .i64 (x.1.lam : Int)] ∧ w'.cell? ⟨x.2, 0, none⟩ = some (.int .i64 kd) ∧ w'.cell? ⟨x.2, 1, none⟩ = some (.int .i64 nm) ∧ w'.cell? ⟨x.2, 2, none⟩ = some (.int .i64 u2)) := fun w' _ hk => by
      have c0 : ∀ i, w'.cell? ⟨x.2, i, none⟩ = W.cell? ⟨x.2, i, none⟩ := fun i => World.cell?_of_block (w := W) (a := ⟨x.2, i, none⟩) (hk x.2 hxl HXO.out)
      exact ⟨by unfold RowAt; rw [hk _ hwz HBO.out]; exact HRV.out, by unfold RowAt; rw [hk _ hsb HSO.out]; exact HRS.out, by rw [c0]; exact HD.out.1, by rw [c0]; exact HD.out.2.1, by rw [c0]; exact HD.out.2.2⟩
    have hS1 := keepS w5 (Nat.le_refl _) (fun b hb _ => hW5.block b hb)
    refine ⟨_, rfl, .inr hS1, ?_⟩
    simp only [Act.put, List.setIfInBounds_toArray, List.set_cons_zero, List.set_cons_succ]
    have hS2 := keepS (w5.alloc (.cells #[.int .i64 kd, .int .i64 nm, .int .i64 x.1.up] 51)) (by simp) (fun b hb _ => by rw [Below.heap_alloc _ _ _ (by omega)]; exact hW5.block b hb)
    refine late_ready 9 (some 23) (by kernel_rfl) rfl rfl rfl (.slice (some ⟨w5.heap.size, 0, none⟩) 1 1) (w5.alloc (.cells #[.int .i64 kd, .int .i64 nm, .int .i64 x.1.up] 51)) (by go_simp) (.inr hS2) ?_
    simp only [Act.put, List.setIfInBounds_toArray, List.set_cons_zero, List.set_cons_succ]
    have hO5 : w5.ownsRow (w.heap.size + 1) 51 3 (.slice ov pre.length cap) pre.length ((spotsT pre).flatMap termL) := own_keep HO.out (fun b hb => hW5.block b (HO.out.lt b hb).2)
    obtain ⟨i0, hi, hzz0, hzz1, hzz2⟩ := info_parts info_term
    refine late_one 10 (by kernel_rfl) rfl rfl fun K hK => ?_
    refine append_own3_wp _ _ _ 26 rfl (w.heap.size + 1) 51 i0 (.agg #[.int .i64 0, .int .i64 0, .int .i64 0]) 3 24 Tryd.underlying26 hi hzz0 hzz1 hzz2 rfl (by decide) (.slice ov pre.length cap) pre.length _ rfl (hO5.alloc _) ⟨w5.heap.size, 0, none⟩ 1 1 (termL (kd, nm, x.1.up)) rfl rfl (term_cells w5 (kd, nm, x.1.up)) (termL_one _) (by omega) (by unfold maxLen; omega) (by omega) (by simp; omega) ?_
    intro v6 w6 hv6 hg6 hb6
    have hs6 := hg6.size
    simp only [World.size_alloc] at hs6 hb6
    have hgx : ∀ b, b < W.heap.size → (Value.slice ov pre.length cap).ownBlock ≠ some b → w6.heap[b]? = W.heap[b]? := fun b hb hbo => by
      rw [hg6.block b (by simp; omega) (fun e => hbo e.symm), Below.heap_alloc _ _ _ (by omega)]; exact hW5.block b hb
    have hS6 := keepS w6 (by omega) hgx
    refine hK.out _ _ (.inr hS6) ?_
    simp only [Act.put, List.setIfInBounds_toArray]
    obtain ⟨o6, c6, rfl⟩ := own_formT hv6
    refine late_one 11 (by kernel_rfl) rfl rfl fun K8 hK8 => ?_
    refine store_at_wp 26 _ _ rfl rfl w.heap.size 0 (.slice o6 (pre.length + 1) c6) rfl rfl one_slterm rfl 26 #[.slice ov pre.length cap] hS6.1 (show 0 < 1 by omega) ?_
    intro w7 hR7 hg7 hs7
    refine hK8.out _ _ (.inl ⟨11, by simp, rfl⟩) ?_
    refine late_done (by kernel_rfl) ?_ _
    refine Calm.normal ?_
    have hob : ∀ z, z < W.heap.size → ¬ V z → w7.heap[z]? = W.heap[z]? := fun z hz hv => by
      rw [hg7.block z (by omega) (by intro e; injection e with e; exact hv ((HV.out z).2 (.inl e)))]
      exact hgx z hz (fun e => hv ((HV.out z).2 (.inr e)))
    have HFIN : Hid (∃ V', TellI w (pre ++ [x]) V' w7 ∧ MoreB V V' W ∧ KeepsB V W w7) := by
      refine ⟨fun z => z = w.heap.size ∨ (Value.slice o6 (pre.length + 1) c6).ownBlock = some z, ⟨_, fun z => Iff.rfl, hR7, ?_, ?_⟩, ?_, ⟨by omega, hob⟩⟩
      · unfold OwnR
        rw [spotsT_app, List.length_append, List.flatMap_append, spotsT_len, HKN.out]
        exact own_keep hv6 (fun b hb => hg7.block b (hv6.lt b hb).2 (by intro e; injection e with e; have := (hv6.lt b hb).1; omega))
      · refine HB.out.trans ⟨hg7.os.trans (hg6.os.trans hW5.os), hg7.tape.trans (hg6.tape.trans hW5.tape), hg7.output.trans (hg6.output.trans hW5.output), by omega, fun j hj => ?_⟩
        exact hob j (by omega) (fun h => by
          rcases (HV.out j).1 h with e | e
          · omega
          · have := (HO.out.lt j e).1; omega)
      · intro z hz
        rcases hz with rfl | hz
        · exact .inl ((HV.out _).2 (.inl rfl))
        · rcases hb6 with h | h
          · exact .inl ((HV.out z).2 (.inr (by rw [← h]; exact hz)))
          · rw [h] at hz
            injection hz with hz
            exact .inr (by omega)
    exact HFIN.out
  case done =>
    rintro D ys V W hD hS ⟨v, hV, hRv, hO, hB⟩ hVD hK
    obtain ⟨ov, cap, hvv⟩ := own_formT hO
    subst hvv
    have hcv : W.cell? ⟨w.heap.size, 0, none⟩ = some (.slice ov (spotsT ys).length cap) := by rw [cell_of_row _ _ _ _ _ _ hRv]; rfl
    have HOW : Hid (W.ownsRow w0.heap.size 51 3 (.slice ov (spotsT ys).length cap) (tri (t.flat 0 (-1))).length ((tri (t.flat 0 (-1))).flatMap termL)) := by
      unfold Hid
      rw [← spotsT_all hS]
      exact ⟨hO.1, hO.2.imp id fun ⟨g, cap, cur, h1, h2, h3⟩ => ⟨g, cap, cur, h1, by have := HB0.out.size; omega, h3⟩⟩
    have HW : Hid (Below w0.heap.size w0 W) := HB0.out.trans (hB.mono HB0.out.size)
    have HKD := hideT' hK
    have hs0 := HB0.out.size
    clear hO hB hK hRv
    gi_wp2
    refine leave_marks (v := .tuple #[.slice ov (spotsT ys).length cap, .bool true]) HKD.out (by simp [results, Tryd.results35, go_sem]) ⟨⟨_, by rw [← HR.out], ?_⟩, below_put HW.out (by omega) HW.out.size⟩
    rw [← HR.out, if_pos rfl]
    exact ⟨HOW.out.1, HOW.out.2.imp id fun ⟨g, cap, cur, h1, h2, h3, h4⟩ => ⟨g, cap, cur, h1, h2, row_put h3 HKD.out rfl, h4⟩⟩
end Go.Proofs.YtgolfbjfopoeeaaDoor

/-
  The model's trees in memory.
-/
namespace Go.Proofs.YtgolfbjfopoeeaaDoor
open Go.RowKit BL
set_option linter.unusedVariables false

theorem zero_lcT : (∀ w, (zeroValue 48).run Tryd.prog w = .ok (.agg #[.int .i64 0, .int .i64 0, .slice none 0 0]) w) ∧ (Tryd.prog.info? 48).map (·.size) = some 3 := zero_of_info (by kernel_rfl)
theorem info_lcT : (Tryd.prog.info? 48).map (fun i => (i.zero, i.size, i.bytes)) = some (some (.agg #[.int .i64 0, .int .i64 0, .slice none 0 0]), 3, 40) := by kernel_rfl
theorem one_sllc : (Tryd.prog.info? 46).map (·.size) = some 1 := by kernel_rfl
/-- The three cells of a tree. -/
def lcL (k n : Int) (z : Value) : List Value := [.int .i64 k, .int .i64 n, z]
def lcC (k n : Int) (z : Value) : Array Value := #[.int .i64 k, .int .i64 n, z]
theorem lcL_one (k n : Int) (z : Value) (hz : z.oneCell' = true) : ∀ u ∈ lcL k n z, u.oneCell' = true := by
  intro u hu
  simp [lcL] at hu
  rcases hu with rfl | rfl | rfl
  · rfl
  · rfl
  · exact hz
theorem lcC_one (k n : Int) (z : Value) (hz : z.oneCell' = true) : (lcC k n z).all (·.oneCell') = true := Array.all_eq_true_iff_forall_mem.2 (fun v hv => lcL_one k n z hz v (by simpa [lcC, lcL] using hv))
/-- The parts of a tree, in blocks of P alone: z is the slice of its parts. -/
def LcIn (w : World) (P : Nat → Prop) : Lm → Value → Prop
  | .var n, z => ∃ o c, z = .slice o 0 c
  | .lam t, z => ∃ g c z1, z = .slice (some ⟨g, 0, none⟩) 1 c ∧ (g < w.heap.size ∧ P g) ∧ (w.cell? ⟨g, 0, none⟩ = some (.int .i64 t.kd) ∧ w.cell? ⟨g, 1, none⟩ = some (.int .i64 t.nm) ∧ w.cell? ⟨g, 2, none⟩ = some z1) ∧ LcIn w P t z1
  | .app s t, z => ∃ g c z1 z2, z = .slice (some ⟨g, 0, none⟩) 2 c ∧ (g < w.heap.size ∧ P g) ∧ (w.cell? ⟨g, 0, none⟩ = some (.int .i64 s.kd) ∧ w.cell? ⟨g, 1, none⟩ = some (.int .i64 s.nm) ∧ w.cell? ⟨g, 2, none⟩ = some z1) ∧
      (w.cell? ⟨g, 3, none⟩ = some (.int .i64 t.kd) ∧ w.cell? ⟨g, 4, none⟩ = some (.int .i64 t.nm) ∧ w.cell? ⟨g, 5, none⟩ = some z2) ∧ LcIn w P s z1 ∧ LcIn w P t z2
theorem LcIn.form {w : World} {P : Nat → Prop} {t : Lm} {z : Value} (h : LcIn w P t z) : ∃ o c, z = .slice o t.kids.length c := by
  cases t with
  | var n => exact h
  | lam t => obtain ⟨g, c, z1, h, _⟩ := h; exact ⟨_, c, h⟩
  | app s t => obtain ⟨g, c, z1, z2, h, _⟩ := h; exact ⟨_, c, h⟩
theorem LcIn.one {w : World} {P : Nat → Prop} {t : Lm} {z : Value} (h : LcIn w P t z) : z.oneCell' = true := by
  obtain ⟨o, c, rfl⟩ := h.form; rfl
theorem LcIn.keep {w w' : World} {P Q : Nat → Prop} (hw : w.heap.size ≤ w'.heap.size) (hk : ∀ x, P x → x < w.heap.size → w'.heap[x]? = w.heap[x]?) (hQ : ∀ x, P x → x < w.heap.size → Q x) : ∀ {t : Lm} {z : Value}, LcIn w P t z → LcIn w' Q t z
  | .var n, z, h => h
  | .lam t, z, h => by
    obtain ⟨g, c, z1, e, hg, ⟨c0, c1, c2⟩, h1⟩ := h
    have hc : ∀ i, w'.cell? ⟨g, i, none⟩ = w.cell? ⟨g, i, none⟩ := fun i => World.cell?_of_block (w := w) (a := ⟨g, i, none⟩) (hk _ hg.2 hg.1)
    exact ⟨g, c, z1, e, ⟨Nat.lt_of_lt_of_le hg.1 hw, hQ _ hg.2 hg.1⟩, ⟨by rw [hc]; exact c0, by rw [hc]; exact c1, by rw [hc]; exact c2⟩, LcIn.keep hw hk hQ h1⟩
  | .app s t, z, h => by
    obtain ⟨g, c, z1, z2, e, hg, ⟨c0, c1, c2⟩, ⟨c3, c4, c5⟩, h1, h2⟩ := h
    have hc : ∀ i, w'.cell? ⟨g, i, none⟩ = w.cell? ⟨g, i, none⟩ := fun i => World.cell?_of_block (w := w) (a := ⟨g, i, none⟩) (hk _ hg.2 hg.1)
    exact ⟨g, c, z1, z2, e, ⟨Nat.lt_of_lt_of_le hg.1 hw, hQ _ hg.2 hg.1⟩, ⟨by rw [hc]; exact c0, by rw [hc]; exact c1, by rw [hc]; exact c2⟩, ⟨by rw [hc]; exact c3, by rw [hc]; exact c4, by rw [hc]; exact c5⟩, LcIn.keep hw hk hQ h1, LcIn.keep hw hk hQ h2⟩
theorem LcIn.below {w w' : World} {P : Nat → Prop} (hB : Below w.heap.size w w') {t : Lm} {z : Value} (h : LcIn w P t z) : LcIn w' P t z := LcIn.keep hB.size (fun x _ hx => hB.block x hx) (fun _ h _ => h) h
theorem LcIn.mono {w : World} {P Q : Nat → Prop} (hQ : ∀ x, P x → x < w.heap.size → Q x) {t : Lm} {z : Value} (h : LcIn w P t z) : LcIn w Q t z := LcIn.keep (Nat.le_refl _) (fun _ _ _ => rfl) hQ h
/-- The parts one by one. -/
theorem LcIn.parts {w : World} {P : Nat → Prop} {t : Lm} {z : Value} (h : LcIn w P t z) : ∃ o c, z = .slice o t.kids.length c ∧ ∀ i s, t.kids[i]? = some s → ∃ g z1, o = some ⟨g, 0, none⟩ ∧ (g < w.heap.size ∧ P g) ∧ (w.cell? ⟨g, i * 3, none⟩ = some (.int .i64 s.kd) ∧ w.cell? ⟨g, i * 3 + 1, none⟩ = some (.int .i64 s.nm) ∧ w.cell? ⟨g, i * 3 + 2, none⟩ = some z1) ∧ LcIn w P s z1 := by
  cases t with
  | var n =>
    obtain ⟨o, c, rfl⟩ := h
    exact ⟨o, c, rfl, fun i s hi => by simp [Lm.kids] at hi⟩
  | lam t =>
    obtain ⟨g, c, z1, rfl, hg, hc, h1⟩ := h
    refine ⟨_, c, rfl, fun i s hi => ?_⟩
    match i, hi with
    | 0, hi => cases hi; exact ⟨g, z1, rfl, hg, hc, h1⟩
    | i + 1, hi => simp [Lm.kids] at hi
  | app s t =>
    obtain ⟨g, c, z1, z2, rfl, hg, hc, hc2, h1, h2⟩ := h
    refine ⟨_, c, rfl, fun i s hi => ?_⟩
    match i, hi with
    | 0, hi => cases hi; exact ⟨g, z1, rfl, hg, hc, h1⟩
    | 1, hi => cases hi; exact ⟨g, z2, rfl, hg, hc2, h2⟩
    | i + 2, hi => simp [Lm.kids] at hi
/-- Trees one behind the other: their cells. -/
def LcsIn (w : World) (P : Nat → Prop) : List Lm → List Value → Prop
  | [], ys => ys = []
  | s :: ss, ys => ∃ z zs, ys = lcL s.kd s.nm z ++ zs ∧ LcIn w P s z ∧ LcsIn w P ss zs
theorem LcsIn.keep {w w' : World} {P Q : Nat → Prop} (hw : w.heap.size ≤ w'.heap.size) (hk : ∀ x, P x → x < w.heap.size → w'.heap[x]? = w.heap[x]?) (hQ : ∀ x, P x → x < w.heap.size → Q x) : ∀ {ss : List Lm} {ys : List Value}, LcsIn w P ss ys → LcsIn w' Q ss ys
  | [], ys, h => h
  | s :: ss, ys, h => by
    obtain ⟨z, zs, e, h1, h2⟩ := h
    exact ⟨z, zs, e, LcIn.keep hw hk hQ h1, LcsIn.keep hw hk hQ h2⟩
theorem LcsIn.snoc {w : World} {P : Nat → Prop} {t : Lm} {z : Value} (ht : LcIn w P t z) : ∀ {ss : List Lm} {ys : List Value}, LcsIn w P ss ys → LcsIn w P (ss ++ [t]) (ys ++ lcL t.kd t.nm z)
  | [], ys, h => by
    rw [LcsIn] at h
    subst h
    exact ⟨z, [], by simp, ht, rfl⟩
  | s :: ss, ys, h => by
    obtain ⟨z', zs, e, h1, h2⟩ := h
    exact ⟨z', zs ++ lcL t.kd t.nm z, by rw [e, List.append_assoc], h1, LcsIn.snoc ht h2⟩
theorem LcsIn.len {w : World} {P : Nat → Prop} : ∀ {ss : List Lm} {ys : List Value}, LcsIn w P ss ys → ys.length = 3 * ss.length
  | [], ys, h => by rw [LcsIn] at h; subst h; rfl
  | s :: ss, ys, h => by
    obtain ⟨z', zs, rfl, h1, h2⟩ := h
    rw [List.length_append, LcsIn.len h2]
    simp [lcL]; omega
/-- A tree whose parts lie in an own row. -/
theorem LcIn.of_row {w : World} {P : Nat → Prop} {t : Lm} {z : Value} {B : Nat} {ys : List Value} (h : w.ownsRow B 48 3 z t.kids.length ys) (hy : LcsIn w P t.kids ys) (hP : ∀ g, z.ownBlock = some g → P g) : LcIn w P t z := by
  rcases h.2 with ⟨rfl, h0⟩ | ⟨g, cap, cur, rfl, hBg, hg, hr⟩
  · cases t with
    | var n => exact ⟨none, 0, rfl⟩
    | lam t => simp [Lm.kids] at h0
    | app s t => simp [Lm.kids] at h0
  · have hgl : g < w.heap.size := (Array.getElem?_eq_some_iff.1 hg).1
    have hgP : P g := hP g rfl
    have hcell : ∀ i, i < t.kids.length * 3 → w.cell? ⟨g, i, none⟩ = ys[i]? := fun i hi => World.ownsRow.cellAt h i hi
    cases t with
    | var n => exact ⟨_, _, rfl⟩
    | lam t =>
      obtain ⟨z1, zs, rfl, h1, h2⟩ := hy
      refine ⟨g, cap, z1, rfl, ⟨hgl, hgP⟩, ⟨?_, ?_, ?_⟩, h1⟩
      · rw [hcell 0 (by simp [Lm.kids])]; rfl
      · rw [hcell 1 (by simp [Lm.kids])]; rfl
      · rw [hcell 2 (by simp [Lm.kids])]; rfl
    | app s t =>
      obtain ⟨z1, zs, rfl, h1, h2⟩ := hy
      obtain ⟨z2, zs2, rfl, h3, h4⟩ := h2
      refine ⟨g, cap, z1, z2, rfl, ⟨hgl, hgP⟩, ⟨?_, ?_, ?_⟩, ⟨?_, ?_, ?_⟩, h1, h3⟩
      · rw [hcell 0 (by simp [Lm.kids])]; rfl
      · rw [hcell 1 (by simp [Lm.kids])]; rfl
      · rw [hcell 2 (by simp [Lm.kids])]; rfl
      · rw [hcell 3 (by simp [Lm.kids])]; rfl
      · rw [hcell 4 (by simp [Lm.kids])]; rfl
      · rw [hcell 5 (by simp [Lm.kids])]; rfl
end Go.Proofs.YtgolfbjfopoeeaaDoor

/-
  What lcTree of the model answers.
-/
namespace Go.Proofs.YtgolfbjfopoeeaaDoor
open Go.RowKit BL
set_option linter.unusedVariables false

theorem lc_cells (w : World) (k n : Int) (z : Value) : ∀ j u, (lcL k n z)[j]? = some u → (w.alloc (.cells (lcC k n z) 48)).cell? ((⟨w.heap.size, 0, none⟩ : Addr).add j) = some u := fun j u hu => by
  have h1 : (w.alloc (.cells (lcC k n z) 48)).cell? ⟨w.heap.size, 0 + j, none⟩ = (lcC k n z)[0 + j]? := by rw [cell_of_row _ _ _ _ _ _ (RowAt.new w 48 (lcC k n z))]
  have h2 : (⟨w.heap.size, 0, none⟩ : Addr).add j = ⟨w.heap.size, 0 + j, none⟩ := by unfold Addr.add; split <;> simp_all
  rw [h2, h1, Nat.zero_add]
  simpa [lcC, lcL] using hu
theorem kid_seg {l : List Nd} {t : Lm} {a : Nat} {up : Int} (h : Seg l t a up) (hs : Shut l a t.sz) : ∀ (i : Nat) (s : Lm), t.kids[i]? = some s → ∃ p, (t.kidsAt a)[i]? = some p ∧ Seg l s p (a : Int) ∧ Shut l p s.sz := by
  intro i s hi
  cases t with
  | var n => simp [Lm.kids] at hi
  | lam t =>
    match i, hi with
    | 0, hi => cases hi; exact ⟨a + 1, rfl, h.2, hs.lam h⟩
    | i + 1, hi => simp [Lm.kids] at hi
  | app p q =>
    match i, hi with
    | 0, hi => cases hi; exact ⟨a + 1, rfl, h.2.1, hs.app1 h⟩
    | 1, hi => cases hi; exact ⟨a + 1 + p.sz, rfl, h.2.2, hs.app2 h⟩
    | i + 2, hi => simp [Lm.kids] at hi
theorem kidsAt_len (t : Lm) (a : Nat) : (t.kidsAt a).length = t.kids.length := by cases t <;> rfl
/-- What lcTree does. -/
def LcTreeC (N : Nat) : Prop := ∀ (t : Lm), t.sz ≤ N → ∀ (l : List Nd) (a : Nat) (up : Int) (v : Value) (w : World), l.length ≤ 150 → NdIn w v l → Seg l t a up → Shut l a t.sz →
    Calls Tryd.prog 27 #[v, .int .i64 (a : Int)] w fun e w' => (∃ z, e = .returned (.agg (lcC t.kd t.nm z)) ∧ LcIn w' (fun x => w.heap.size ≤ x) t z) ∧ Below w.heap.size w w'

set_option maxHeartbeats 8000000 in
set_option maxRecDepth 100000 in
theorem lcTree_step (N : Nat) (IH : ∀ n, n < N → LcTreeC n) : LcTreeC N := by
  intro t ht l a up v w hl hv hseg hsh
  have HIH := hideT' IH
  have HV := hideT' hv
  have HSEG := hideT' (And.intro hseg hsh)
  have HTN := hideT' ht
  obtain ⟨o, cap, rfl⟩ := hv.len
  have hal := hseg.lt
  have hnd := hseg.nd
  obtain ⟨g, rfl, hg, c0, c1, c2⟩ := hv.cells hal hnd.symm
  simp only at c0 c1 c2
  have HPT : Hid (partsTo l a l.length = t.kidsAt a) := hseg.parts hsh
  obtain ⟨kd, hkd⟩ : ∃ kd, kd = t.kd := ⟨_, rfl⟩
  obtain ⟨nm, hnm⟩ : ∃ nm, nm = t.nm := ⟨_, rfl⟩
  rw [← hkd] at c0 ⊢
  rw [← hnm] at c1 ⊢
  have HKN := hideT' (And.intro hkd hnm)
  obtain ⟨n, hn⟩ : ∃ n, n = l.length := ⟨_, rfl⟩
  have HNN := hideT' hn
  rw [← hn] at hl hal ⊢
  have hz := zero_lcT.1
  have han : (a : Int) < (n : Int) := by omega
  clear IH hv hseg hsh ht hnd hkd hnm hn c2
  have HCS : Hid (∀ w', Below w.heap.size w w' → w'.cell? ⟨g, a * 3, none⟩ = some (.int .i64 kd) ∧ w'.cell? ⟨g, a * 3 + 1, none⟩ = some (.int .i64 nm)) := fun w' h => ⟨by rw [h.cell (p := ⟨g, a * 3, none⟩) hg]; exact c0, by rw [h.cell (p := ⟨g, a * 3 + 1, none⟩) hg]; exact c1⟩
  clear c0 c1
  go_enter Tryd.func27, Tryd.ntmps27
  go_wp2_with fail
  obtain ⟨W, hWd⟩ : ∃ W, W = w.alloc (.cells #[.int .i64 0, .int .i64 0, .slice none 0 0] 48) := ⟨_, rfl⟩
  have hWs : W.heap.size = w.heap.size + 1 := by rw [hWd]; simp
  have hR0 : RowAt W w.heap.size 48 #[.int .i64 0, .int .i64 0, .slice none 0 0] := by rw [hWd]; exact RowAt.new w _ _
  have hW0 : Below w.heap.size w W := by rw [hWd]; exact (Below.refl _ _).alloc (Nat.le_refl _) _
  rw [← hWd]
  clear hWd
  refine held_begin (fun w' => Below w.heap.size w w') (by kernel_rfl) ?_
  have hS : Below w.heap.size w W.drew := hW0.drew
  -- THE REGION
  refine held_valS 0 (some 8) rfl rfl (by kernel_rfl) (by kernel_rfl) (by kernel_rfl) noPanic_put rfl (.slice (some ⟨g, 0, none⟩) n cap) (fun _ _ => by go_simp) hS ?_
  simp only [Act.put, List.setIfInBounds_toArray, List.set_cons_zero, List.set_cons_succ]
  refine held_valS 1 (some 9) rfl rfl (by kernel_rfl) (by kernel_rfl) (by kernel_rfl) noPanic_put rfl (.int .i64 (a : Int)) (fun _ _ => by go_simp) hS ?_
  simp only [Act.put, List.setIfInBounds_toArray, List.set_cons_zero, List.set_cons_succ]
  refine held_valS 2 (some 10) rfl rfl (by kernel_rfl) (by kernel_rfl) (by kernel_rfl) noPanic_put rfl (.pointer (some ⟨g, a * 3, none⟩)) (fun _ _ => by go_simp) hS ?_
  simp only [Act.put, List.setIfInBounds_toArray, List.set_cons_zero, List.set_cons_succ]
  refine held_valS 3 (some 11) rfl rfl (by kernel_rfl) (by kernel_rfl) (by kernel_rfl) noPanic_put rfl (.pointer (some ⟨g, a * 3, none⟩)) (fun _ _ => by go_simp) hS ?_
  simp only [Act.put, List.setIfInBounds_toArray, List.set_cons_zero, List.set_cons_succ]
  refine held_valS 4 (some 12) rfl rfl (by kernel_rfl) (by kernel_rfl) (by kernel_rfl) noPanic_put rfl (.int .i64 kd) (fun w' h => by have c := (HCS.out w' h).1; go_simp) hS ?_
  simp only [Act.put, List.setIfInBounds_toArray, List.set_cons_zero, List.set_cons_succ]
  refine held_valS 5 (some 13) rfl rfl (by kernel_rfl) (by kernel_rfl) (by kernel_rfl) noPanic_put rfl (.slice (some ⟨g, 0, none⟩) n cap) (fun _ _ => by go_simp) hS ?_
  simp only [Act.put, List.setIfInBounds_toArray, List.set_cons_zero, List.set_cons_succ]
  refine held_valS 6 (some 14) rfl rfl (by kernel_rfl) (by kernel_rfl) (by kernel_rfl) noPanic_put rfl (.int .i64 (a : Int)) (fun _ _ => by go_simp) hS ?_
  simp only [Act.put, List.setIfInBounds_toArray, List.set_cons_zero, List.set_cons_succ]
  refine held_valS 7 (some 15) rfl rfl (by kernel_rfl) (by kernel_rfl) (by kernel_rfl) noPanic_put rfl (.pointer (some ⟨g, a * 3, none⟩)) (fun _ _ => by go_simp) hS ?_
  simp only [Act.put, List.setIfInBounds_toArray, List.set_cons_zero, List.set_cons_succ]
  refine held_valS 8 (some 16) rfl rfl (by kernel_rfl) (by kernel_rfl) (by kernel_rfl) noPanic_put rfl (.pointer (some ⟨g, a * 3 + 1, none⟩)) (fun _ _ => by go_simp) hS ?_
  simp only [Act.put, List.setIfInBounds_toArray, List.set_cons_zero, List.set_cons_succ]
  refine held_valS 9 (some 17) rfl rfl (by kernel_rfl) (by kernel_rfl) (by kernel_rfl) noPanic_put rfl (.int .i64 nm) (fun w' h => by have c := (HCS.out w' h).2; go_simp) hS ?_
  simp only [Act.put, List.setIfInBounds_toArray, List.set_cons_zero, List.set_cons_succ]
  refine held_valS 10 (some 18) rfl rfl (by kernel_rfl) (by kernel_rfl) (by kernel_rfl) noPanic_put rfl (.agg (lcC kd nm (.slice none 0 0))) (fun _ _ => by unfold lcC; go_simp) hS ?_
  simp only [Act.put, List.setIfInBounds_toArray, List.set_cons_zero, List.set_cons_succ]
  have hS5 : Below w.heap.size w (W.drew.alloc (.cells #[.int .i64 0, .int .i64 0, .slice none 0 0] 48)) := hS.alloc (by simp; omega) _
  refine held_ready 11 (some 5) (by kernel_rfl) rfl rfl rfl (.pointer (some ⟨W.heap.size, 0, none⟩)) (W.drew.alloc (.cells #[.int .i64 0, .int .i64 0, .slice none 0 0] 48)) (by go_simp) hS5 ?_
  simp only [Act.put, List.setIfInBounds_toArray, List.set_cons_zero, List.set_cons_succ]
  refine held_one 12 (by kernel_rfl) rfl rfl ?_
  intro K hK
  refine store_3_wp 48 (.tmp 5) (.tmp 18) rfl rfl zero_lcT.2 W.heap.size (lcC kd nm (.slice none 0 0)) rfl (lcC_one _ _ _ rfl) rfl rfl #[.int .i64 0, .int .i64 0, .slice none 0 0] rfl (RowAt.new W.drew _ _) ?_
  intro w2 hR2 hg2 hs2
  have hs2' : w2.heap.size = w.heap.size + 1 + 1 := by rw [hs2]; simp; omega
  have hW2 : Below w.heap.size w w2 := hS5.grown hg2 (by simp; omega) (by intro k hk; cases hk; omega)
  have hR02 : RowAt w2 w.heap.size 48 #[.int .i64 0, .int .i64 0, .slice none 0 0] := RowAt.grown (RowAt.old (w := W.drew) hR0 _) hg2 (by intro e; injection e; omega)
  have hR2' : RowAt w2 (w.heap.size + 1) 48 (lcC kd nm (.slice none 0 0)) := by rw [← hWs]; exact hR2
  refine hK.out _ _ hW2 ?_
  refine wpAnyH_done (by kernel_rfl) ?_ _
  refine NoPanic.normal ?_
  have HPC := hideT' (lcParts_any l a (.slice (some ⟨g, 0, none⟩) n cap) w2 (by rw [HNN.out]; exact HV.out.below hW2) (by have := HNN.out; omega) (by have := HNN.out; omega))
  rw [hWs]
  clear hK hg2 hs2 hS hS5 hR0 hR2 hW0
  go_wp2_with fail
  refine HPC.out.mono ?_
  rintro e w3 ⟨⟨uu, rfl, hO⟩, hW3⟩
  rw [HPT.out] at hO
  obtain ⟨m, hm⟩ : ∃ m, m = t.kids.length := ⟨_, rfl⟩
  have hm2 : m ≤ 2 := by rw [hm]; cases t <;> simp [Lm.kids]
  obtain ⟨ou, cu, huu⟩ : ∃ o c, uu = .slice o m c := by
    obtain ⟨o, c, e⟩ := own_formT hO
    exact ⟨o, c, by rw [e, natsI_len, kidsAt_len, hm]⟩
  subst huu
  have HM := hideT' hm
  have HU := hideT' (OwnR.inR (l := natsI (t.kidsAt a)) hO intL_len)
  have HUB : Hid (∀ b, (Value.slice ou m cu).ownBlock = some b → w2.heap.size ≤ b ∧ b < w3.heap.size) := fun b e => hO.lt b e
  have hs3 := hW3.size
  have hR03 : RowAt w3 w.heap.size 48 #[.int .i64 0, .int .i64 0, .slice none 0 0] := hR02.below hW3 (by omega)
  have hR3 : RowAt w3 (w.heap.size + 1) 48 (lcC kd nm (.slice none 0 0)) := hR2'.below hW3 (by omega)
  have hW3' : Below w.heap.size w w3 := hW2.trans (hW3.mono (by omega))
  have HR03 := hideT' hR03
  have HR3 := hideT' hR3
  clear hm hR02 hR2' hW3 hO hR03 hR3
  go_wp2_with fail
  go_loopg [23] m (fun gg i wr => ∃ (As Bs : List Lm) (z : Value) (ys : List Value), gg = Bs.length ∧ Hid (t.kids = As ++ Bs) ∧ i = .int .i64 (As.length : Int) ∧ RowAt wr (w.heap.size + 1) 48 (lcC kd nm z) ∧ Hid (wr.ownsRow w3.heap.size 48 3 z As.length ys ∧ LcsIn wr (fun x => w3.heap.size ≤ x ∧ z.ownBlock ≠ some x) As ys ∧ (∀ b, b < w3.heap.size → b ≠ w.heap.size + 1 → wr.heap[b]? = w3.heap[b]?)) ∧ w3.heap.size ≤ wr.heap.size ∧ Below w.heap.size w wr)
  case atStart => exact ⟨[], t.kids, .slice none 0 0, [], by rw [HM.out], rfl, rfl, HR3.out, ⟨⟨rfl, .inl ⟨rfl, rfl⟩⟩, rfl, fun _ _ _ => rfl⟩, Nat.le_refl _, hW3'⟩
  case round =>
    obtain ⟨As, Bs, z, ys, hgg, HA, rfl, hT, HO, hsr, hW⟩ := hrel
    obtain ⟨j, hj⟩ : ∃ j, j = As.length := ⟨_, rfl⟩
    obtain ⟨oz, cz, hzz⟩ := own_formT HO.out.1
    subst hzz
    rw [← hj] at hT HO ⊢
    have HJ := hideT' hj
    clear hj
    cases Bs with
    | nil =>
      have hjm : j = m := by rw [HJ.out, HM.out, HA.out]; simp
      have hnl : ¬ (j : Int) < (m : Int) := by omega
      have hR0r : RowAt wr w.heap.size 48 #[.int .i64 0, .int .i64 0, .slice none 0 0] := by unfold RowAt; rw [HO.out.2.2 w.heap.size (by omega) (by omega)]; exact HR03.out
      have HEK : Hid (t.kids = As) := by unfold Hid; have := HA.out; simpa using this
      clear hgg hjm
      go_wp2_with (first | (refine wpList_load_row rfl 48 _ rfl (w.heap.size + 1) rfl 48 (lcC kd nm (.slice oz j cz)) (0, 0) _ hT Tryd.underlying48 rfl zero_lcT.2 ?_) | (refine store_3 rfl 48 _ _ rfl rfl zero_lcT.2 w.heap.size (lcC kd nm (.slice oz j cz)) rfl (lcC_one _ _ _ rfl) rfl rfl _ rfl hR0r ?_; intro w5 hR5 hg5 hs5))
      refine bodyPost_ret (v := .agg (lcC kd nm (.slice oz j cz))) (results_cell_row Tryd.results27 _ _ w.heap.size 48 (lcC kd nm (.slice oz j cz)) (0, 0) _ rfl hR5 Tryd.underlying48 rfl zero_lcT.2) rfl ⟨⟨_, rfl, ?_⟩, hW.grown hg5 (by have := hW.size; omega) (by intro k hk; cases hk; omega)⟩
      have hst : ∀ b, w3.heap.size ≤ b → b < wr.heap.size → w5.heap[b]? = wr.heap[b]? := fun b h1 h2 => hg5.block b h2 (by intro e; injection e; omega)
      obtain ⟨hOw, hLs, _⟩ := HO.out
      refine LcIn.of_row (B := w3.heap.size) (ys := ys) (own_keep hOw (fun b hb => hst b (hOw.lt b hb).1 (hOw.lt b hb).2) |> fun h => by rw [HEK.out, ← HJ.out]; exact h) ?_ (fun b hb => by have := (hOw.lt b hb).1; omega)
      rw [HEK.out]
      exact LcsIn.keep (by omega) (fun x hx hl => hst x hx.1 hl) (fun x hx _ => by have := hx.1; omega) hLs
    | cons T Bs =>
      have hil : (j : Int) < (m : Int) := by rw [HM.out, HA.out, List.length_append, ← HJ.out]; simp; omega
      have hkj : t.kids[j]? = some T := by rw [HA.out, HJ.out]; simp
      obtain ⟨r, hrp, hsT, hshT⟩ := kid_seg HSEG.out.1 HSEG.out.2 j T hkj
      have hrl := hsT.lt
      have cpar : ∃ gu, ou = some ⟨gu, 0, none⟩ ∧ wr.cell? ⟨gu, j, none⟩ = some (.int .i64 (r : Int)) ∧ gu < wr.heap.size := by
        obtain ⟨o', cap', e', hin⟩ := HU.out
        have hjl : j < (natsI (t.kidsAt a)).length := by rw [natsI_len, kidsAt_len, ← HM.out]; omega
        obtain ⟨gu, ho, hgl, hcc⟩ := hin (by intro e; rw [e] at hjl; simp at hjl)
        cases e'
        have hub := HUB.out gu (by rw [ho]; rfl)
        refine ⟨gu, ho, ?_, by omega⟩
        rw [World.cell?_of_block (w := w3) (a := ⟨gu, j, none⟩) (HO.out.2.2 gu hub.2 (by omega))]
        have := hcc j 0 (.int .i64 (r : Int)) hjl (by
          have e1 : (natsI (t.kidsAt a)).getD j default = (r : Int) := by
            unfold natsI
            rw [List.getD, List.getElem?_map, hrp]; rfl
          rw [e1]; rfl)
        simpa using this
      obtain ⟨gu, hou, hcu, hgul⟩ := cpar
      subst hou
      have hNW : ∀ w', Below w.heap.size w w' → NdIn w' (.slice (some ⟨g, 0, none⟩) n cap) l := fun w' hB => by rw [HNN.out]; exact HV.out.below hB
      have HNW := hideT' hNW
      have hTs := Lm.kids_lt (List.mem_of_getElem? hkj)
      have HCALL : Hid (∀ w', NdIn w' (.slice (some ⟨g, 0, none⟩) n cap) l → Calls Tryd.prog 27 #[.slice (some ⟨g, 0, none⟩) n cap, .int .i64 (r : Int)] w' fun e w'' => (∃ z, e = .returned (.agg (lcC T.kd T.nm z)) ∧ LcIn w'' (fun x => w'.heap.size ≤ x) T z) ∧ Below w'.heap.size w' w'') := by
        intro w' hN'
        exact HIH.out T.sz (by have := HTN.out; omega) T (Nat.le_refl _) l r (a : Int) _ w' (by have := HNN.out; omega) hN' hsT hshT
      clear hNW hrp hsT hshT hkj
      go_wp2_with fail
      refine late_begin [8] (fun w' => RowAt w' (w.heap.size + 1) 48 (lcC kd nm (.slice oz j cz))) (by kernel_rfl) ?_
      have hS : RowAt wr.drew (w.heap.size + 1) 48 (lcC kd nm (.slice oz j cz)) := hT
      refine late_val 0 (some 27) rfl rfl (by kernel_rfl) (by kernel_rfl) (by kernel_rfl) [1, 6, 8] (by kernel_rfl) noPanic_put rfl (.pointer (some ⟨w.heap.size + 1, 2, none⟩)) (fun _ _ => by go_simp) hS ?_
      simp only [Act.put, List.setIfInBounds_toArray, List.set_cons_zero, List.set_cons_succ]
      refine late_val 1 (some 28) rfl rfl (by kernel_rfl) (by kernel_rfl) (by kernel_rfl) [6, 8] (by kernel_rfl) noPanic_put rfl (.slice oz j cz) (fun w' h => by have c : w'.cell? ⟨w.heap.size + 1, 2, none⟩ = some (.slice oz j cz) := (by rw [cell_of_row w' _ _ _ _ _ h]; rfl); go_simp) hS ?_
      simp only [Act.put, List.setIfInBounds_toArray, List.set_cons_zero, List.set_cons_succ]
      refine late_val 2 (some 29) rfl rfl (by kernel_rfl) (by kernel_rfl) (by kernel_rfl) [4, 5, 6, 8] (by kernel_rfl) noPanic_put rfl (.slice (some ⟨g, 0, none⟩) n cap) (fun _ _ => by go_simp) hS ?_
      simp only [Act.put, List.setIfInBounds_toArray, List.set_cons_zero, List.set_cons_succ]
      refine late_val 3 (some 30) rfl rfl (by kernel_rfl) (by kernel_rfl) (by kernel_rfl) [4, 5, 6, 8] (by kernel_rfl) noPanic_put rfl (.int .i64 (r : Int)) (fun _ _ => by go_simp) hS ?_
      simp only [Act.put, List.setIfInBounds_toArray, List.set_cons_zero, List.set_cons_succ]
      refine late_call 4 (some 31) (by kernel_rfl) rfl rfl rfl 27 #[.slice (some ⟨g, 0, none⟩) n cap, .int .i64 (r : Int)] (by go_simp) _ (HCALL.out wr.drew (HNW.out _ hW.drew)) ?_
      rintro e w5 ⟨⟨z1, rfl, hc1⟩, hW5⟩
      have hW5 : Below wr.heap.size wr w5 := ⟨hW5.os, hW5.tape, hW5.output, hW5.size, hW5.block⟩
      have hc1 : LcIn w5 (fun x => wr.heap.size ≤ x) T z1 := hc1
      have hs5 := hW5.size
      have hS1 : RowAt w5 (w.heap.size + 1) 48 (lcC kd nm (.slice oz j cz)) := RowAt.below hT hW5 (RowAt.lt hT)
      refine ⟨_, rfl, .inr hS1, ?_⟩
      simp only [Act.put, List.setIfInBounds_toArray, List.set_cons_zero, List.set_cons_succ]
      have hS2 : RowAt (w5.alloc (.cells (lcC T.kd T.nm z1) 48)) (w.heap.size + 1) 48 (lcC kd nm (.slice oz j cz)) := RowAt.old hS1 _
      refine late_ready 5 (some 32) (by kernel_rfl) rfl rfl rfl (.slice (some ⟨w5.heap.size, 0, none⟩) 1 1) (w5.alloc (.cells (lcC T.kd T.nm z1) 48)) (by unfold lcC; go_simp) (.inr hS2) ?_
      simp only [Act.put, List.setIfInBounds_toArray, List.set_cons_zero, List.set_cons_succ]
      have hO5 : w5.ownsRow w3.heap.size 48 3 (.slice oz j cz) j ys := own_keep HO.out.1 (fun b hb => hW5.block b (HO.out.1.lt b hb).2)
      obtain ⟨i0, hi, hzz0, hzz1, hzz2⟩ := info_parts info_lcT
      refine late_one 6 (by kernel_rfl) rfl rfl fun K hK => ?_
      refine append_own3_wp _ _ _ 46 rfl w3.heap.size 48 i0 (.agg #[.int .i64 0, .int .i64 0, .slice none 0 0]) 3 40 Tryd.underlying46 hi hzz0 hzz1 hzz2 rfl (by decide) (.slice oz j cz) j ys rfl (hO5.alloc _) ⟨w5.heap.size, 0, none⟩ 1 1 (lcL T.kd T.nm z1) rfl rfl (lc_cells w5 T.kd T.nm z1) (lcL_one _ _ _ hc1.one) (by omega) (by unfold maxLen; omega) (by omega) (by simp; omega) ?_
      intro v6 w6 hv6 hg6 hb6
      have hs6 := hg6.size
      simp only [World.size_alloc] at hs6 hb6
      have hnb : ∀ b, (Value.slice oz j cz).ownBlock = some b → w3.heap.size ≤ b ∧ b < wr.heap.size := fun b hb => HO.out.1.lt b hb
      have hS6 : RowAt w6 (w.heap.size + 1) 48 (lcC kd nm (.slice oz j cz)) := hS2.grown hg6 (fun e => by have := (hnb _ e.symm).1; omega)
      refine hK.out _ _ (.inr hS6) ?_
      simp only [Act.put, List.setIfInBounds_toArray]
      have hS := hS6
      refine late_val 7 (some 34) rfl rfl (by kernel_rfl) (by kernel_rfl) (by kernel_rfl) [8] (by kernel_rfl) noPanic_put rfl (.pointer (some ⟨w.heap.size + 1, 2, none⟩)) (fun _ _ => by go_simp) hS ?_
      simp only [Act.put]
      obtain ⟨o6, c6, rfl⟩ := own_formT hv6
      refine late_one 8 (by kernel_rfl) rfl rfl fun K8 hK8 => ?_
      refine store_at_wp 46 _ _ rfl rfl (w.heap.size + 1) 2 (.slice o6 (j + 1) c6) rfl rfl one_sllc rfl 48 (lcC kd nm (.slice oz j cz)) hS6 (show 2 < 3 by omega) ?_
      intro w7 hR7 hg7 hs7
      refine hK8.out _ _ (.inl ⟨8, by simp, rfl⟩) ?_
      refine late_done (by kernel_rfl) ?_ _
      refine NoPanic.normal ?_
      have hR7' : RowAt w7 (w.heap.size + 1) 48 (lcC kd nm (.slice o6 (j + 1) c6)) := hR7
      have hWsz := hW.size
      have hgx : ∀ b, b < w5.heap.size → b ≠ w.heap.size + 1 → (Value.slice oz j cz).ownBlock ≠ some b → w7.heap[b]? = w5.heap[b]? := fun b hb hbt hbo => by
        rw [hg7.block b (by omega) (by intro e; injection e; omega), hg6.block b (by simp; omega) (fun e => hbo e.symm), Below.heap_alloc _ _ _ hb]
      have hown6 : ∀ b, b < w5.heap.size → (Value.slice oz j cz).ownBlock ≠ some b → (Value.slice o6 (j + 1) c6).ownBlock ≠ some b := fun b hb hbo e => by
        rcases hb6 with h | h
        · exact hbo (by rw [← h]; exact e)
        · rw [h] at e
          injection e with e
          omega
      have HEND : Hid (w7.ownsRow w3.heap.size 48 3 (.slice o6 (j + 1) c6) (As ++ [T]).length (ys ++ lcL T.kd T.nm z1) ∧ LcsIn w7 (fun x => w3.heap.size ≤ x ∧ (Value.slice o6 (j + 1) c6).ownBlock ≠ some x) (As ++ [T]) (ys ++ lcL T.kd T.nm z1) ∧ (∀ b, b < w3.heap.size → b ≠ w.heap.size + 1 → w7.heap[b]? = w3.heap[b]?)) := by
        refine ⟨?_, LcsIn.snoc (LcIn.keep (by omega) (fun x hx hl => hgx x hl (by omega) (fun e => by have := (hnb x e).2; omega)) (fun x hx hl => ⟨by omega, hown6 x hl (fun e => by have := (hnb x e).2; omega)⟩) hc1) (LcsIn.keep (w := wr) (by omega) (fun x hx hl => by rw [hgx x (by omega) (by omega) hx.2]; exact hW5.block x hl) (fun x hx hl => ⟨hx.1, hown6 x (by omega) hx.2⟩) HO.out.2.1), fun b hb hbt => ?_⟩
        · rw [List.length_append, ← HJ.out]
          exact own_keep hv6 (fun b hb => hg7.block b (hv6.lt b hb).2 (by intro e; injection e with e; have := (hv6.lt b hb).1; omega))
        · rw [hgx b (by omega) hbt (fun e => by have := (hnb b e).1; omega), hW5.block b (by omega)]
          exact HO.out.2.2 b hb hbt
      have HA2 : Hid (t.kids = (As ++ [T]) ++ Bs) := by unfold Hid; rw [HA.out]; simp
      have hB7 : Below w.heap.size w w7 := (((hW.trans (hW5.mono (by omega))).alloc (by omega) _).grown hg6 (by simp; omega) (fun b hb => by have := (hnb b hb).1; omega)).grown hg7 (by omega) (by intro k hk; cases hk; omega)
      have hs7' : w3.heap.size ≤ w7.heap.size := by omega
      clear hgx hown6 HO hO5 hv6 hg6 hb6 hg7 hs7 hs6 hc1 hW5 hS1 hS2 hS6 hS hT hR7 hW hnb
      go_wp2
      go_roundg Bs.length
      case measure => rw [hgg]; simp
      case rel => exact ⟨As ++ [T], Bs, .slice o6 (j + 1) c6, ys ++ lcL T.kd T.nm z1, rfl, HA2, by rw [List.length_append, ← HJ.out]; go_num, hR7', HEND, hs7', hB7⟩
theorem lcTree_all : ∀ N, LcTreeC N := by
  intro N
  induction N using Nat.strongRecOn with
  | _ N IH => exact lcTree_step N IH
end Go.Proofs.YtgolfbjfopoeeaaDoor

/-
  What spec.GoodTerm answers.
-/
namespace Go.Proofs.YtgolfbjfopoeeaaDoor
open Go.RowKit BL
set_option linter.unusedVariables false

theorem goodS_bad {l : List Nd} {k : Nat} (hk : k < l.length) (h : nodeOk l k = false) : goodS l = false := by
  unfold goodS
  rw [Bool.and_eq_false_iff]
  refine .inr ?_
  rw [List.all_eq_false]
  exact ⟨k, List.mem_range.2 hk, by simp [h]⟩
theorem goodS_short {l : List Nd} (h : (decide (1 ≤ l.length) && decide (l.length ≤ 150)) = false) : goodS l = false := by
  unfold goodS; rw [h, Bool.false_and]
theorem goodS_all {l : List Nd} (h : (decide (1 ≤ l.length) && decide (l.length ≤ 150)) = true) (ha : ∀ k, k < l.length → nodeOk l k = true) : goodS l = true := by
  unfold goodS; rw [h, Bool.true_and, List.all_eq_true]
  intro k hk
  exact ha k (List.mem_range.1 hk)
theorem nodeOk_up {l : List Nd} {k : Nat} (h : nodeOk l k = true) : -1 ≤ upN l k ∧ upN l k ≤ (k : Int) - 1 := by
  unfold nodeOk at h
  simp only [Bool.and_eq_true, decide_eq_true_eq] at h
  exact ⟨h.1.2.1, h.1.2.2⟩
def endB (R : Bool) (dd pn : Nat) (kd nm : Int) : Bool := R && (decide (dd ≤ 40) && (decide (pn = wantN kd) && ((decide (0 ≤ nm) && decide (nm ≤ 99)) && (decide (kd = 1) || decide (nm = 0)))))
theorem endB_R {dd pn : Nat} {kd nm : Int} : endB false dd pn kd nm = false := rfl
theorem endB_dd {R : Bool} {dd pn : Nat} {kd nm : Int} (h : ¬ dd ≤ 40) : endB R dd pn kd nm = false := by unfold endB; rw [decide_eq_false h]; simp
theorem endB_pn {R : Bool} {dd pn : Nat} {kd nm : Int} (h : ¬ pn = wantN kd) : endB R dd pn kd nm = false := by unfold endB; rw [decide_eq_false h]; simp
theorem endB_nm {R : Bool} {dd pn : Nat} {kd nm : Int} (h : ¬ (0 ≤ nm ∧ nm ≤ 99)) : endB R dd pn kd nm = false := by
  have : (decide (0 ≤ nm) && decide (nm ≤ 99)) = false := by simpa using h
  unfold endB; rw [this]; simp
theorem endB_n0 {R : Bool} {dd pn : Nat} {kd nm : Int} (h : ¬ kd = 1) (h0 : ¬ nm = 0) : endB R dd pn kd nm = false := by unfold endB; rw [decide_eq_false h, decide_eq_false h0]; simp
theorem endB_ok {dd pn : Nat} {kd nm : Int} (h1 : dd ≤ 40) (h2 : pn = wantN kd) (h3 : 0 ≤ nm) (h4 : nm ≤ 99) (h5 : kd = 1 ∨ nm = 0) : endB true dd pn kd nm = true := by
  unfold endB; rw [decide_eq_true h1, decide_eq_true h2, decide_eq_true h3, decide_eq_true h4]
  rcases h5 with h | h <;> simp [h]
theorem wantN_le (k : Int) : wantN k ≤ 2 := by unfold wantN; split; omega; split <;> omega
/-- What the last line of the model asks of a node. -/
def nodeEnd (l : List Nd) (k : Nat) (ar : Bool) (dp : Nat) (q : Int) : Bool :=
  ar && (decide (dp ≤ 40) && (decide ((partsTo l k l.length).length = wantN q) && ((decide (0 ≤ (ndAt l k).n) && decide ((ndAt l k).n ≤ 99)) && (decide (q = 1) || decide ((ndAt l k).n = 0)))))
theorem nodeOk_eq (l : List Nd) (k : Nat) : nodeOk l k = ((decide (k = 0) == decide (upN l k = -1)) && (decide (-1 ≤ upN l k) && decide (upN l k ≤ (k : Int) - 1)) && ((decide ((ndAt l k).k = 1) || (decide ((ndAt l k).k = 2) || decide ((ndAt l k).k = 3))) && nodeEnd l k (decide (k = 0) || ancF l (upN l k) k ((k : Int) - 1)) (dpF l (k + 1) k) (ndAt l k).k)) := rfl
theorem dpF_le (l : List Nd) : ∀ (f : Nat) (a : Int), dpF l f a ≤ f
  | 0, _ => Nat.le_refl _
  | f + 1, a => by rw [dpF]; split; omega; have := dpF_le l f (upN l a.toNat); omega

set_option maxHeartbeats 8000000 in
set_option maxRecDepth 100000 in
theorem specGoodTerm_any (l : List Nd) (v : Value) (w : World) (hv : NdIn w v l) (hl : l.length ≤ 1048576) :
    Calls Tryd.prog 25 #[v] w fun e w' => e = .returned (.bool (goodS l)) ∧ Below w.heap.size w w' := by
  have HV := hideT' hv
  obtain ⟨o, cap, rfl⟩ := hv.len
  clear hv
  obtain ⟨r, hr⟩ : ∃ r, r = goodS l := ⟨_, rfl⟩
  rw [← hr]
  have HR := hideT' hr
  obtain ⟨n, hn⟩ : ∃ n, n = l.length := ⟨_, rfl⟩
  have HNN := hideT' hn
  rw [← hn] at hl ⊢
  clear hr
  by_cases hlen : 1 ≤ n ∧ n ≤ 150
  · have hz := zero_term.1
    have HL : Hid ((decide (1 ≤ l.length) && decide (l.length ≤ 150)) = true) := by unfold Hid; rw [← hn]; simp [hlen.1, hlen.2]
    clear hn
    obtain ⟨h1, h150⟩ := hlen
    have hb1 : decide ((1 : Int) ≤ (n : Int)) = true := decide_eq_true (by omega)
    have hb2 : decide ((n : Int) ≤ (150 : Int)) = true := decide_eq_true (by omega)
    go_enter Tryd.func25, Tryd.ntmps25
    go_wp2_with fail
    refine (l1In_any (n : Int) 1 150 _).mono ?_
    rintro e w1 ⟨rfl, rfl⟩
    rw [hb1, hb2]
    clear hb1 hb2
    go_wp2_with fail
    go_loopg [16] n (fun g i wr => ∃ k : Nat, g = n - k ∧ k ≤ n ∧ i = .int .i64 (k : Int) ∧ (∀ j, j < k → nodeOk l j = true) ∧ Below w1.heap.size w1 wr)
    case atStart => exact ⟨0, rfl, by omega, by go_num, fun j hj => absurd hj (by omega), Below.refl _ _⟩
    case round =>
      obtain ⟨k, hg, hk, rfl, hok, hW⟩ := hrel
      have HOK := hideT' hok
      clear hok
      by_cases hlt : (k : Int) < (n : Int)
      · obtain ⟨nd, hnd⟩ : ∃ nd, nd = ndAt l k := ⟨_, rfl⟩
        obtain ⟨b, rfl, hb, c0, c1, c2⟩ := (HV.out.below hW).cells (by have := HNN.out; omega) hnd
        have HND := hideT' hnd
        have HUP : Hid (upN l k = nd.u) := by unfold Hid upN; rw [← hnd]
        have hb' : b < wr.heap.size := hb
        clear hb hnd
        obtain ⟨kd, nm, u⟩ := nd
        simp only at c0 c1 c2 HUP
        have HW := hideT' hW
        have hsz := hW.size
        clear hW
        obtain ⟨q0, hq0⟩ : ∃ q0, ((k : Int) == 0) = q0 := ⟨_, rfl⟩
        obtain ⟨q1, hq1⟩ : ∃ q1, (u == (-1 : Int)) = q1 := ⟨_, rfl⟩
        have HQ0 : Hid (q0 = decide (k = 0)) := by unfold Hid; rw [← hq0, Bool.eq_iff_iff, beq_iff_eq, decide_eq_true_eq]; omega
        have HQ1 : Hid (q1 = decide (u = -1)) := by unfold Hid; rw [← hq1, Bool.eq_iff_iff, beq_iff_eq, decide_eq_true_eq]
        have HBAD : Hid (nodeOk l k = false → r = false) := by
          unfold Hid; intro h; rw [HR.out]; exact goodS_bad (by have := HNN.out; omega) h
        by_cases hqq : q0 = q1
        · subst hqq
          by_cases hin : -1 ≤ u ∧ u ≤ (k : Int) - 1
          · obtain ⟨hi1, hi2⟩ := hin
            have hb1 : decide (-1 ≤ u) = true := decide_eq_true hi1
            have hb2 : decide (u ≤ (k : Int) - 1) = true := decide_eq_true hi2
            have HUPS : Hid (∀ j, j ≤ k → -1 ≤ upN l j ∧ upN l j ≤ (j : Int) - 1) := by
              unfold Hid; intro j hj
              by_cases e : j = k
              · subst e; rw [HUP.out]; exact ⟨hi1, hi2⟩
              · exact nodeOk_up (HOK.out j (by omega))
            obtain ⟨tb, htb⟩ : ∃ tb, tb = wr.heap.size := ⟨_, rfl⟩
            have HEND : Hid (nodeOk l k = ((decide (kd = 1) || (decide (kd = 2) || decide (kd = 3))) && nodeEnd l k (q0 || ancF l u k ((k : Int) - 1)) (dpF l (k + 1) k) kd)) := by
              unfold Hid
              rw [nodeOk_eq, HUP.out, ← HND.out, ← HQ0.out, ← HQ1.out, hb1, hb2]
              simp
            go_wp2_with fail
            refine (l1In_any u (-1) ((k : Int) - 1) _).mono ?_
            rintro e w2 ⟨rfl, hw2⟩
            rw [hb1, hb2]
            have HW2 : Hid (Below w1.heap.size w1 w2) := by unfold Hid; rw [hw2]; exact HW.out.alloc hsz _
            have hrow : RowAt w2 tb 51 #[.int .i64 kd, .int .i64 nm, .int .i64 u] := by rw [hw2, htb]; exact RowAt.new _ _ _
            have d0 : w2.cell? ⟨tb, 0, none⟩ = some (.int .i64 kd) := by rw [cell_of_row _ _ _ _ _ _ hrow]; rfl
            have d1 : w2.cell? ⟨tb, 1, none⟩ = some (.int .i64 nm) := by rw [cell_of_row _ _ _ _ _ _ hrow]; rfl
            have d2 : w2.cell? ⟨tb, 2, none⟩ = some (.int .i64 u) := by rw [cell_of_row _ _ _ _ _ _ hrow]; rfl
            rw [← htb]
            have HTB : Hid (tb < w2.heap.size) := hrow.lt
            clear hw2 hrow hb1 hb2 hb' htb
            obtain ⟨R, hRR⟩ : ∃ R, R = (q0 || ancF l u k ((k : Int) - 1)) := ⟨_, rfl⟩
            have HRR := hideT' hRR
            clear hRR c0 c1 c2
            go_upto_block 2 with fail
            go_cut [5, 6, 16] from 16 to 102 (fun ar at_ ix wx => ar = .bool R ∧ (∃ a : Int, at_ = .int .i64 a) ∧ ix = .int .i64 (k : Int) ∧ w2 = wx)
            case first =>
              go_wp2_with fail
              go_loopg [5, 6] k (fun g ar at_ wx => ∃ (a : Int) (q : Bool) (f : Nat), g = (a + 1).toNat ∧ ar = .bool q ∧ at_ = .int .i64 a ∧ -1 ≤ a ∧ a ≤ (k : Int) - 1 ∧ a < f ∧ Hid ((q || ancF l u f a) = R) ∧ w2 = wx)
              case atStart => exact ⟨(k : Int) - 1, q0, k, by omega, rfl, by go_num, by omega, by omega, by omega, HRR.out.symm, rfl⟩
              case round =>
                obtain ⟨a, q, f, hga, rfl, rfl, ha1, ha2, haf, HA, rfl⟩ := hrel
                by_cases hgo : 0 ≤ a ∧ q = false
                · obtain ⟨ha0, rfl⟩ := hgo
                  obtain ⟨m, rfl⟩ : ∃ m : Nat, a = (m : Int) := ⟨a.toNat, by omega⟩
                  obtain ⟨nd, hnd⟩ : ∃ nd, nd = ndAt l m := ⟨_, rfl⟩
                  obtain ⟨b', e', hb', c0, c1, c2⟩ := (HV.out.below HW2.out).cells (by have := HNN.out; omega) hnd
                  cases e'
                  have hups := HUPS.out m (by omega)
                  have HUM : Hid (upN l m = nd.u) := by unfold Hid upN; rw [← hnd]
                  rw [HUM.out] at hups
                  clear hnd hb' c0 c1
                  obtain ⟨kd', nm', u'⟩ := nd
                  simp only at c2 HUM hups
                  obtain ⟨q', hq'⟩ : ∃ q', ((m : Int) == u) = q' := ⟨_, rfl⟩
                  have HQ' : Hid ((q' || ancF l u (f - 1) u') = R) := by
                    unfold Hid
                    rw [← HA.out]
                    obtain ⟨f', rfl⟩ : ∃ f', f = f' + 1 := ⟨f - 1, by omega⟩
                    rw [ancF, if_neg (by omega), Int.toNat_natCast, HUM.out, ← hq', Nat.add_sub_cancel]
                    by_cases hmu : (m : Int) = u
                    · rw [if_pos hmu]; simp [hmu]
                    · rw [if_neg hmu]; simp [hmu]
                  go_wp2
                  go_roundg ((u' + 1).toNat)
                  case measure => omega
                  case rel => exact ⟨u', q', f - 1, rfl, rfl, rfl, hups.1, by omega, by omega, HQ', rfl⟩
                · have HQR : Hid (q = R) := by
                    unfold Hid
                    rw [← HA.out]
                    by_cases hq : q = true
                    · rw [hq]; rfl
                    · have hq' : q = false := by simpa using hq
                      have : a < 0 := by
                        rcases Int.lt_or_le a 0 with h | h
                        · exact h
                        · exact absurd ⟨h, hq'⟩ hgo
                      rw [hq']
                      cases f with
                      | zero => rfl
                      | succ f => rw [ancF, if_pos this]; rfl
                  have hex : a < 0 ∨ (0 ≤ a ∧ q = true) := by
                    rcases Int.lt_or_le a 0 with h | h
                    · exact .inl h
                    · refine .inr ⟨h, ?_⟩
                      cases q with
                      | true => rfl
                      | false => exact absurd ⟨h, rfl⟩ hgo
                  clear hgo HA
                  have hex3 : (a < 0 ∧ q = false) ∨ (a < 0 ∧ q = true) ∨ (0 ≤ a ∧ q = true) := by
                    rcases hex with h | h
                    · cases q with
                      | false => exact .inl ⟨h, rfl⟩
                      | true => exact .inr (.inl ⟨h, rfl⟩)
                    · exact .inr (.inr h)
                  clear hex
                  rcases hex3 with ⟨ha, rfl⟩ | ⟨ha, rfl⟩ | ⟨ha, rfl⟩
                  · go_wp2
                    go_meet
                    case rel => exact ⟨by rw [HQR.out], ⟨_, rfl⟩, rfl, rfl⟩
                  · go_wp2
                    go_meet
                    case rel => exact ⟨by rw [HQR.out], ⟨_, rfl⟩, rfl, rfl⟩
                  · go_wp2
                    go_meet
                    case rel => exact ⟨by rw [HQR.out], ⟨_, rfl⟩, rfl, rfl⟩
            case rest =>
              obtain ⟨rfl, ⟨aa, rfl⟩, rfl, rfl⟩ := hcut
              obtain ⟨DP, hDP⟩ : ∃ DP, DP = dpF l (k + 1) k := ⟨_, rfl⟩
              have hDPl : DP ≤ k + 1 := by rw [hDP]; exact dpF_le _ _ _
              have HDP := hideT' hDP
              clear hDP
              obtain ⟨pn, hpn⟩ : ∃ pn, pn = (partsTo l k l.length).length := ⟨_, rfl⟩
              have hpnl : pn ≤ 150 := by rw [hpn]; have := partsTo_le l k l.length; have := HNN.out; omega
              have HPC : Hid (∀ w3, NdIn w3 (.slice (some ⟨b, 0, none⟩) n cap) l → Calls Tryd.prog 48 #[.slice (some ⟨b, 0, none⟩) n cap, .int .i64 (k : Int)] w3 fun e w' => (∃ o c, e = .returned (.slice o pn c)) ∧ Below w3.heap.size w3 w') := by
                unfold Hid; intro w3 h3
                refine (lcParts_any l k _ w3 h3 (by have := HNN.out; omega) (by have := HNN.out; omega)).mono ?_
                rintro e w' ⟨⟨uv, rfl, hown⟩, hB⟩
                obtain ⟨o', c', rfl⟩ := own_formT hown
                exact ⟨⟨o', c', by rw [natsI_len, ← hpn]⟩, hB⟩
              have HEN2 : Hid (nodeOk l k = ((decide (kd = 1) || (decide (kd = 2) || decide (kd = 3))) && endB R DP pn kd nm)) := by
                unfold Hid; rw [HEND.out, ← HRR.out, ← HDP.out]; unfold nodeEnd endB; rw [← HND.out, ← hpn]
              clear hpn
              have HVW : Hid (NdIn w2 (.slice (some ⟨b, 0, none⟩) n cap) l) := by unfold Hid; have := HV.out.below HW2.out; rw [HNN.out]; exact this
              go_wp2_with fail
              go_loopg [7, 8] (k + 1) (fun g dv at_ wx => ∃ (a : Int) (dd f : Nat), g = (a + 1).toNat ∧ dv = .int .i64 (dd : Int) ∧ at_ = .int .i64 a ∧ -1 ≤ a ∧ a ≤ (k : Int) ∧ a < f ∧ Hid (dd + dpF l f a = DP) ∧ dd ≤ DP ∧ w2 = wx)
              case atStart => exact ⟨(k : Int), 0, k + 1, by omega, rfl, by go_num, by omega, by omega, by omega, by unfold Hid; rw [HDP.out]; omega, by omega, rfl⟩
              case round =>
                obtain ⟨a, dd, f, hga, rfl, rfl, ha1, ha2, haf, HA, hdd, rfl⟩ := hrel
                by_cases ha0 : 0 ≤ a
                · obtain ⟨m, rfl⟩ : ∃ m : Nat, a = (m : Int) := ⟨a.toNat, by omega⟩
                  obtain ⟨nd, hnd⟩ : ∃ nd, nd = ndAt l m := ⟨_, rfl⟩
                  obtain ⟨b', e', hb', c0, c1, c2⟩ := (HV.out.below HW2.out).cells (by have := HNN.out; omega) hnd
                  cases e'
                  have hups := HUPS.out m (by omega)
                  have HUM : Hid (upN l m = nd.u) := by unfold Hid upN; rw [← hnd]
                  rw [HUM.out] at hups
                  clear hnd hb' c0 c1
                  obtain ⟨kd', nm', u'⟩ := nd
                  simp only at c2 HUM hups
                  have hst : dd + 1 + dpF l (f - 1) u' = DP := by
                    rw [← HA.out]
                    obtain ⟨f', rfl⟩ : ∃ f', f = f' + 1 := ⟨f - 1, by omega⟩
                    rw [dpF, if_neg (by omega), Int.toNat_natCast, HUM.out, Nat.add_sub_cancel]
                    omega
                  have HST := hideT' hst
                  have hdd1 : dd + 1 ≤ DP := by omega
                  clear hst
                  go_wp2
                  go_roundg ((u' + 1).toNat)
                  case measure => omega
                  case rel => exact ⟨u', dd + 1, f - 1, rfl, by go_num, rfl, hups.1, by omega, by omega, HST, hdd1, rfl⟩
                · have hdp : dd = DP := by
                    rw [← HA.out]
                    have : dpF l f a = 0 := by
                      cases f with
                      | zero => rfl
                      | succ f => rw [dpF, if_pos (by omega)]
                    omega
                  subst hdp
                  clear HA
                  by_cases hkd : kd = 1 ∨ kd = 2 ∨ kd = 3
                  · have HE4 : Hid (nodeOk l k = endB R dd pn kd nm) := by
                      unfold Hid; rw [HEN2.out]
                      rcases hkd with rfl | rfl | rfl <;> simp
                    cases R with
                    | false =>
                      have HF : Hid (r = false) := HBAD.out (by rw [HE4.out]; exact endB_R)
                      rcases hkd with rfl | rfl | rfl
                      all_goals (
                        go_wp2
                        go_ret
                        exact ⟨by rw [HF.out]; rfl, HW2.out⟩)
                    | true =>
                      by_cases hd40 : dd ≤ 40
                      · have hpc : pn = wantN kd ∨ ¬ pn = wantN kd := by omega
                        rcases hkd with rfl | rfl | rfl
                        all_goals (
                          go_wp2_with fail
                          refine (HPC.out _ HVW.out).mono ?_
                          rintro e w5 ⟨⟨o5, c5, rfl⟩, hB5⟩
                          have HB6 : Hid (Below w1.heap.size w1 w5) := HW2.out.trans (hB5.mono HW2.out.size)
                          have f0 := (hB5.cell (p := ⟨tb, 0, none⟩) HTB.out).trans d0
                          have f1 := (hB5.cell (p := ⟨tb, 1, none⟩) HTB.out).trans d1
                          clear hB5 d0 d1 d2
                          rcases hpc with hpc | hpc
                          · have HPW := hideT' hpc
                            simp only [wantN, Int.reduceEq, if_true, if_false] at hpc
                            subst hpc
                            by_cases hnm : 0 ≤ nm ∧ nm ≤ 99
                            · obtain ⟨hn1, hn2⟩ := hnm
                              have hb1 : decide (0 ≤ nm) = true := decide_eq_true hn1
                              have hb2 : decide (nm ≤ 99) = true := decide_eq_true hn2
                              go_wp2_with fail
                              refine (l1In_any nm 0 99 _).mono ?_
                              rintro e w6 ⟨rfl, hw6⟩
                              subst hw6
                              rw [hb1, hb2]
                              clear hb1 hb2
                              by_cases hn0 : nm = 0
                              · have HK : Hid (nodeOk l k = true) := by unfold Hid; rw [HE4.out]; exact endB_ok hd40 HPW.out hn1 hn2 (.inr hn0)
                                go_wp2
                                go_roundg (n - (k + 1))
                                case measure => omega
                                case rel => exact ⟨k + 1, rfl, by omega, by go_num, fun j hj => if e : j = k then by rw [e]; exact HK.out else HOK.out j (by omega), HB6.out⟩
                              · first
                                | (have HF : Hid (r = false) := HBAD.out (by rw [HE4.out]; exact endB_n0 (by decide) hn0)
                                   have hnb : (nm != 0) = true := by simpa using hn0
                                   go_wp2
                                   go_ret
                                   exact ⟨by rw [HF.out]; rfl, HB6.out⟩)
                                | (have HK : Hid (nodeOk l k = true) := by unfold Hid; rw [HE4.out]; exact endB_ok hd40 HPW.out hn1 hn2 (.inl rfl)
                                   go_wp2
                                   go_roundg (n - (k + 1))
                                   case measure => omega
                                   case rel => exact ⟨k + 1, rfl, by omega, by go_num, fun j hj => if e : j = k then by rw [e]; exact HK.out else HOK.out j (by omega), HB6.out⟩)
                            · have HF : Hid (r = false) := HBAD.out (by rw [HE4.out]; exact endB_nm hnm)
                              have hbb : (decide (0 ≤ nm) && decide (nm ≤ 99)) = false := by simpa using hnm
                              go_wp2_with fail
                              refine (l1In_any nm 0 99 _).mono ?_
                              rintro e w6 ⟨rfl, hw6⟩
                              subst hw6
                              rw [hbb]
                              clear hbb
                              go_wp2
                              go_ret
                              exact ⟨by rw [HF.out]; rfl, HB6.out⟩
                          · have HF : Hid (r = false) := HBAD.out (by rw [HE4.out]; exact endB_pn hpc)
                            simp only [wantN, Int.reduceEq, if_true, if_false] at hpc
                            have hpi : ∀ z : Nat, ¬ pn = z → ¬ (pn : Int) = (z : Int) := fun z h => by omega
                            have hpi2 := hpi _ hpc
                            clear hpi
                            simp only [Int.cast_ofNat_Int] at hpi2
                            go_wp2
                            go_ret
                            exact ⟨by rw [HF.out]; rfl, HB6.out⟩)
                      · have HF : Hid (r = false) := HBAD.out (by rw [HE4.out]; exact endB_dd hd40)
                        rcases hkd with rfl | rfl | rfl
                        all_goals (
                          go_wp2
                          go_ret
                          exact ⟨by rw [HF.out]; rfl, HW2.out⟩)
                  · have HF : Hid (r = false) := HBAD.out (by rw [HEN2.out]; have h1 : decide (kd = 1) = false := decide_eq_false (fun h => hkd (.inl h)); have h2 : decide (kd = 2) = false := decide_eq_false (fun h => hkd (.inr (.inl h))); have h3 : decide (kd = 3) = false := decide_eq_false (fun h => hkd (.inr (.inr h))); rw [h1, h2, h3]; rfl)
                    have hk1 : ¬ kd = 1 := fun h => hkd (.inl h)
                    have hk2 : ¬ kd = 2 := fun h => hkd (.inr (.inl h))
                    have hk3 : ¬ kd = 3 := fun h => hkd (.inr (.inr h))
                    clear hkd
                    go_wp2
                    go_ret
                    exact ⟨by rw [HF.out]; rfl, HW2.out⟩
          · have HF : Hid (r = false) := HBAD.out (by
              rw [nodeOk_eq, HUP.out]
              have : (decide (-1 ≤ u) && decide (u ≤ (k : Int) - 1)) = false := by simpa using hin
              rw [this]; simp)
            have hbb : (decide (-1 ≤ u) && decide (u ≤ (k : Int) - 1)) = false := by simpa using hin
            go_wp2_with fail
            refine (l1In_any u (-1) ((k : Int) - 1) _).mono ?_
            rintro e w2 ⟨rfl, hw2⟩
            rw [hbb]
            have HW2 : Hid (Below w1.heap.size w1 w2) := by unfold Hid; rw [hw2]; exact HW.out.alloc hsz _
            clear hbb hw2
            go_wp2
            go_ret
            exact ⟨by rw [HF.out]; rfl, HW2.out⟩
        · have HF : Hid (r = false) := HBAD.out (by
            rw [nodeOk_eq, HUP.out, ← HQ0.out, ← HQ1.out]
            have : (q0 == q1) = false := by simpa using hqq
            rw [this]; rfl)
          have HW2 : Hid (Below w1.heap.size w1 (wr.alloc (.cells #[.int .i64 kd, .int .i64 nm, .int .i64 u] 51))) := HW.out.alloc hsz _
          cases q0 <;> cases q1
          · exact absurd rfl hqq
          · go_wp2
            go_ret
            exact ⟨by rw [HF.out]; rfl, HW2.out⟩
          · go_wp2
            go_ret
            exact ⟨by rw [HF.out]; rfl, HW2.out⟩
          · exact absurd rfl hqq
      · have HT : Hid (r = true) := by
          unfold Hid; rw [HR.out]
          exact goodS_all HL.out (fun j hj => HOK.out j (by have := HNN.out; omega))
        go_wp2
        go_ret
        exact ⟨by rw [HT.out]; rfl, hW⟩
  · have HF : Hid (r = false) := by
      unfold Hid; rw [HR.out]
      refine goodS_short ?_
      rw [← hn]; simpa using hlen
    have hbb : (decide ((1 : Int) ≤ (n : Int)) && decide ((n : Int) ≤ (150 : Int))) = false := by
      rw [Bool.and_eq_false_iff, decide_eq_false_iff_not, decide_eq_false_iff_not]; omega
    clear hn
    go_enter Tryd.func25, Tryd.ntmps25
    go_wp2_with fail
    refine (l1In_any (n : Int) 1 150 _).mono ?_
    rintro e w1 ⟨rfl, rfl⟩
    rw [hbb]
    clear hbb
    go_wp2
    go_ret
    exact ⟨by rw [HF.out]; rfl, Below.refl _ _⟩
end Go.Proofs.YtgolfbjfopoeeaaDoor
