/-
  What spec.GoodTerm answers.
-/
import Derived.Test.YtgolfbjfopoeeaaDoorSpecParts
import Derived.Deep.LoopGhost
import Derived.Deep.CutBlock
import Derived.Deep.DeepCutAuto
namespace Go.Proofs.YtgolfbjfopoeeaaDoor
open Go.RowKit BL
set_option linter.unusedVariables false

theorem goodS_bad {l : List Nd} {k : Nat} (hk : k < l.length) (h : nodeOk l k = false) : goodS l = false := by
  unfold goodS
  rw [Bool.and_eq_false_iff]
  refine .inr ?_
  rw [List.all_eq_false]
  exact ⟨k, List.mem_range.2 hk, by simp [h]⟩
theorem goodS_short {l : List Nd} (h : (decide (1 ≤ l.length) && decide (l.length ≤ 150)) = false) : goodS l = false := by
  unfold goodS; rw [h, Bool.false_and]
theorem goodS_all {l : List Nd} (h : (decide (1 ≤ l.length) && decide (l.length ≤ 150)) = true) (ha : ∀ k, k < l.length → nodeOk l k = true) : goodS l = true := by
  unfold goodS; rw [h, Bool.true_and, List.all_eq_true]
  intro k hk
  exact ha k (List.mem_range.1 hk)
theorem nodeOk_up {l : List Nd} {k : Nat} (h : nodeOk l k = true) : -1 ≤ upN l k ∧ upN l k ≤ (k : Int) - 1 := by
  unfold nodeOk at h
  simp only [Bool.and_eq_true, decide_eq_true_eq] at h
  exact ⟨h.1.2.1, h.1.2.2⟩
def endB (R : Bool) (dd pn : Nat) (kd nm : Int) : Bool := R && (decide (dd ≤ 40) && (decide (pn = wantN kd) && ((decide (0 ≤ nm) && decide (nm ≤ 99)) && (decide (kd = 1) || decide (nm = 0)))))
theorem endB_R {dd pn : Nat} {kd nm : Int} : endB false dd pn kd nm = false := rfl
theorem endB_dd {R : Bool} {dd pn : Nat} {kd nm : Int} (h : ¬ dd ≤ 40) : endB R dd pn kd nm = false := by unfold endB; rw [decide_eq_false h]; simp
theorem endB_pn {R : Bool} {dd pn : Nat} {kd nm : Int} (h : ¬ pn = wantN kd) : endB R dd pn kd nm = false := by unfold endB; rw [decide_eq_false h]; simp
theorem endB_nm {R : Bool} {dd pn : Nat} {kd nm : Int} (h : ¬ (0 ≤ nm ∧ nm ≤ 99)) : endB R dd pn kd nm = false := by
  have : (decide (0 ≤ nm) && decide (nm ≤ 99)) = false := by simpa using h
  unfold endB; rw [this]; simp
theorem endB_n0 {R : Bool} {dd pn : Nat} {kd nm : Int} (h : ¬ kd = 1) (h0 : ¬ nm = 0) : endB R dd pn kd nm = false := by unfold endB; rw [decide_eq_false h, decide_eq_false h0]; simp
theorem endB_ok {dd pn : Nat} {kd nm : Int} (h1 : dd ≤ 40) (h2 : pn = wantN kd) (h3 : 0 ≤ nm) (h4 : nm ≤ 99) (h5 : kd = 1 ∨ nm = 0) : endB true dd pn kd nm = true := by
  unfold endB; rw [decide_eq_true h1, decide_eq_true h2, decide_eq_true h3, decide_eq_true h4]
  rcases h5 with h | h <;> simp [h]
theorem wantN_le (k : Int) : wantN k ≤ 2 := by unfold wantN; split; omega; split <;> omega
/-- What the last line of the model asks of a node. -/
def nodeEnd (l : List Nd) (k : Nat) (ar : Bool) (dp : Nat) (q : Int) : Bool :=
  ar && (decide (dp ≤ 40) && (decide ((partsTo l k l.length).length = wantN q) && ((decide (0 ≤ (ndAt l k).n) && decide ((ndAt l k).n ≤ 99)) && (decide (q = 1) || decide ((ndAt l k).n = 0)))))
theorem nodeOk_eq (l : List Nd) (k : Nat) : nodeOk l k = ((decide (k = 0) == decide (upN l k = -1)) && (decide (-1 ≤ upN l k) && decide (upN l k ≤ (k : Int) - 1)) && ((decide ((ndAt l k).k = 1) || (decide ((ndAt l k).k = 2) || decide ((ndAt l k).k = 3))) && nodeEnd l k (decide (k = 0) || ancF l (upN l k) k ((k : Int) - 1)) (dpF l (k + 1) k) (ndAt l k).k)) := rfl
theorem dpF_le (l : List Nd) : ∀ (f : Nat) (a : Int), dpF l f a ≤ f
  | 0, _ => Nat.le_refl _
  | f + 1, a => by rw [dpF]; split; omega; have := dpF_le l f (upN l a.toNat); omega

set_option maxHeartbeats 8000000 in
set_option maxRecDepth 100000 in
theorem specGoodTerm_any (l : List Nd) (v : Value) (w : World) (hv : NdIn w v l) (hl : l.length ≤ 1048576) :
    Calls Tryd.prog 25 #[v] w fun e w' => e = .returned (.bool (goodS l)) ∧ Below w.heap.size w w' := by
  have HV := hideT' hv
  obtain ⟨o, cap, rfl⟩ := hv.len
  clear hv
  obtain ⟨r, hr⟩ : ∃ r, r = goodS l := ⟨_, rfl⟩
  rw [← hr]
  have HR := hideT' hr
  obtain ⟨n, hn⟩ : ∃ n, n = l.length := ⟨_, rfl⟩
  have HNN := hideT' hn
  rw [← hn] at hl ⊢
  clear hr
  by_cases hlen : 1 ≤ n ∧ n ≤ 150
  · have hz := zero_term.1
    have HL : Hid ((decide (1 ≤ l.length) && decide (l.length ≤ 150)) = true) := by unfold Hid; rw [← hn]; simp [hlen.1, hlen.2]
    clear hn
    obtain ⟨h1, h150⟩ := hlen
    have hb1 : decide ((1 : Int) ≤ (n : Int)) = true := decide_eq_true (by omega)
    have hb2 : decide ((n : Int) ≤ (150 : Int)) = true := decide_eq_true (by omega)
    go_enter Tryd.func25, Tryd.ntmps25
    go_wp2_with fail
    refine (l1In_any (n : Int) 1 150 _).mono ?_
    rintro e w1 ⟨rfl, rfl⟩
    rw [hb1, hb2]
    clear hb1 hb2
    go_wp2_with fail
    go_loopg [16] n (fun g i wr => ∃ k : Nat, g = n - k ∧ k ≤ n ∧ i = .int .i64 (k : Int) ∧ (∀ j, j < k → nodeOk l j = true) ∧ Below w1.heap.size w1 wr)
    case atStart => exact ⟨0, rfl, by omega, by go_num, fun j hj => absurd hj (by omega), Below.refl _ _⟩
    case round =>
      obtain ⟨k, hg, hk, rfl, hok, hW⟩ := hrel
      have HOK := hideT' hok
      clear hok
      by_cases hlt : (k : Int) < (n : Int)
      · obtain ⟨nd, hnd⟩ : ∃ nd, nd = ndAt l k := ⟨_, rfl⟩
        obtain ⟨b, rfl, hb, c0, c1, c2⟩ := (HV.out.below hW).cells (by have := HNN.out; omega) hnd
        have HND := hideT' hnd
        have HUP : Hid (upN l k = nd.u) := by unfold Hid upN; rw [← hnd]
        have hb' : b < wr.heap.size := hb
        clear hb hnd
        obtain ⟨kd, nm, u⟩ := nd
        simp only at c0 c1 c2 HUP
        have HW := hideT' hW
        have hsz := hW.size
        clear hW
        obtain ⟨q0, hq0⟩ : ∃ q0, ((k : Int) == 0) = q0 := ⟨_, rfl⟩
        obtain ⟨q1, hq1⟩ : ∃ q1, (u == (-1 : Int)) = q1 := ⟨_, rfl⟩
        have HQ0 : Hid (q0 = decide (k = 0)) := by unfold Hid; rw [← hq0, Bool.eq_iff_iff, beq_iff_eq, decide_eq_true_eq]; omega
        have HQ1 : Hid (q1 = decide (u = -1)) := by unfold Hid; rw [← hq1, Bool.eq_iff_iff, beq_iff_eq, decide_eq_true_eq]
        have HBAD : Hid (nodeOk l k = false → r = false) := by
          unfold Hid; intro h; rw [HR.out]; exact goodS_bad (by have := HNN.out; omega) h
        by_cases hqq : q0 = q1
        · subst hqq
          by_cases hin : -1 ≤ u ∧ u ≤ (k : Int) - 1
          · obtain ⟨hi1, hi2⟩ := hin
            have hb1 : decide (-1 ≤ u) = true := decide_eq_true hi1
            have hb2 : decide (u ≤ (k : Int) - 1) = true := decide_eq_true hi2
            have HUPS : Hid (∀ j, j ≤ k → -1 ≤ upN l j ∧ upN l j ≤ (j : Int) - 1) := by
              unfold Hid; intro j hj
              by_cases e : j = k
              · subst e; rw [HUP.out]; exact ⟨hi1, hi2⟩
              · exact nodeOk_up (HOK.out j (by omega))
            obtain ⟨tb, htb⟩ : ∃ tb, tb = wr.heap.size := ⟨_, rfl⟩
            have HEND : Hid (nodeOk l k = ((decide (kd = 1) || (decide (kd = 2) || decide (kd = 3))) && nodeEnd l k (q0 || ancF l u k ((k : Int) - 1)) (dpF l (k + 1) k) kd)) := by
              unfold Hid
              rw [nodeOk_eq, HUP.out, ← HND.out, ← HQ0.out, ← HQ1.out, hb1, hb2]
              simp
            go_wp2_with fail
            refine (l1In_any u (-1) ((k : Int) - 1) _).mono ?_
            rintro e w2 ⟨rfl, hw2⟩
            rw [hb1, hb2]
            have HW2 : Hid (Below w1.heap.size w1 w2) := by unfold Hid; rw [hw2]; exact HW.out.alloc hsz _
            have hrow : RowAt w2 tb 51 #[.int .i64 kd, .int .i64 nm, .int .i64 u] := by rw [hw2, htb]; exact RowAt.new _ _ _
            have d0 : w2.cell? ⟨tb, 0, none⟩ = some (.int .i64 kd) := by rw [cell_of_row _ _ _ _ _ _ hrow]; rfl
            have d1 : w2.cell? ⟨tb, 1, none⟩ = some (.int .i64 nm) := by rw [cell_of_row _ _ _ _ _ _ hrow]; rfl
            have d2 : w2.cell? ⟨tb, 2, none⟩ = some (.int .i64 u) := by rw [cell_of_row _ _ _ _ _ _ hrow]; rfl
            rw [← htb]
            have HTB : Hid (tb < w2.heap.size) := hrow.lt
            clear hw2 hrow hb1 hb2 hb' htb
            obtain ⟨R, hRR⟩ : ∃ R, R = (q0 || ancF l u k ((k : Int) - 1)) := ⟨_, rfl⟩
            have HRR := hideT' hRR
            clear hRR c0 c1 c2
            go_upto_block 2 with fail
            go_cut [5, 6, 16] from 16 to 102 (fun ar at_ ix wx => ar = .bool R ∧ (∃ a : Int, at_ = .int .i64 a) ∧ ix = .int .i64 (k : Int) ∧ w2 = wx)
            case first =>
              go_wp2_with fail
              go_loopg [5, 6] k (fun g ar at_ wx => ∃ (a : Int) (q : Bool) (f : Nat), g = (a + 1).toNat ∧ ar = .bool q ∧ at_ = .int .i64 a ∧ -1 ≤ a ∧ a ≤ (k : Int) - 1 ∧ a < f ∧ Hid ((q || ancF l u f a) = R) ∧ w2 = wx)
              case atStart => exact ⟨(k : Int) - 1, q0, k, by omega, rfl, by go_num, by omega, by omega, by omega, HRR.out.symm, rfl⟩
              case round =>
                obtain ⟨a, q, f, hga, rfl, rfl, ha1, ha2, haf, HA, rfl⟩ := hrel
                by_cases hgo : 0 ≤ a ∧ q = false
                · obtain ⟨ha0, rfl⟩ := hgo
                  obtain ⟨m, rfl⟩ : ∃ m : Nat, a = (m : Int) := ⟨a.toNat, by omega⟩
                  obtain ⟨nd, hnd⟩ : ∃ nd, nd = ndAt l m := ⟨_, rfl⟩
                  obtain ⟨b', e', hb', c0, c1, c2⟩ := (HV.out.below HW2.out).cells (by have := HNN.out; omega) hnd
                  cases e'
                  have hups := HUPS.out m (by omega)
                  have HUM : Hid (upN l m = nd.u) := by unfold Hid upN; rw [← hnd]
                  rw [HUM.out] at hups
                  clear hnd hb' c0 c1
                  obtain ⟨kd', nm', u'⟩ := nd
                  simp only at c2 HUM hups
                  obtain ⟨q', hq'⟩ : ∃ q', ((m : Int) == u) = q' := ⟨_, rfl⟩
                  have HQ' : Hid ((q' || ancF l u (f - 1) u') = R) := by
                    unfold Hid
                    rw [← HA.out]
                    obtain ⟨f', rfl⟩ : ∃ f', f = f' + 1 := ⟨f - 1, by omega⟩
                    rw [ancF, if_neg (by omega), Int.toNat_natCast, HUM.out, ← hq', Nat.add_sub_cancel]
                    by_cases hmu : (m : Int) = u
                    · rw [if_pos hmu]; simp [hmu]
                    · rw [if_neg hmu]; simp [hmu]
                  go_wp2
                  go_roundg ((u' + 1).toNat)
                  case measure => omega
                  case rel => exact ⟨u', q', f - 1, rfl, rfl, rfl, hups.1, by omega, by omega, HQ', rfl⟩
                · have HQR : Hid (q = R) := by
                    unfold Hid
                    rw [← HA.out]
                    by_cases hq : q = true
                    · rw [hq]; rfl
                    · have hq' : q = false := by simpa using hq
                      have : a < 0 := by
                        rcases Int.lt_or_le a 0 with h | h
                        · exact h
                        · exact absurd ⟨h, hq'⟩ hgo
                      rw [hq']
                      cases f with
                      | zero => rfl
                      | succ f => rw [ancF, if_pos this]; rfl
                  have hex : a < 0 ∨ (0 ≤ a ∧ q = true) := by
                    rcases Int.lt_or_le a 0 with h | h
                    · exact .inl h
                    · refine .inr ⟨h, ?_⟩
                      cases q with
                      | true => rfl
                      | false => exact absurd ⟨h, rfl⟩ hgo
                  clear hgo HA
                  have hex3 : (a < 0 ∧ q = false) ∨ (a < 0 ∧ q = true) ∨ (0 ≤ a ∧ q = true) := by
                    rcases hex with h | h
                    · cases q with
                      | false => exact .inl ⟨h, rfl⟩
                      | true => exact .inr (.inl ⟨h, rfl⟩)
                    · exact .inr (.inr h)
                  clear hex
                  rcases hex3 with ⟨ha, rfl⟩ | ⟨ha, rfl⟩ | ⟨ha, rfl⟩
                  · go_wp2
                    go_meet
                    case rel => exact ⟨by rw [HQR.out], ⟨_, rfl⟩, rfl, rfl⟩
                  · go_wp2
                    go_meet
                    case rel => exact ⟨by rw [HQR.out], ⟨_, rfl⟩, rfl, rfl⟩
                  · go_wp2
                    go_meet
                    case rel => exact ⟨by rw [HQR.out], ⟨_, rfl⟩, rfl, rfl⟩
            case rest =>
              obtain ⟨rfl, ⟨aa, rfl⟩, rfl, rfl⟩ := hcut
              obtain ⟨DP, hDP⟩ : ∃ DP, DP = dpF l (k + 1) k := ⟨_, rfl⟩
              have hDPl : DP ≤ k + 1 := by rw [hDP]; exact dpF_le _ _ _
              have HDP := hideT' hDP
              clear hDP
              obtain ⟨pn, hpn⟩ : ∃ pn, pn = (partsTo l k l.length).length := ⟨_, rfl⟩
              have hpnl : pn ≤ 150 := by rw [hpn]; have := partsTo_le l k l.length; have := HNN.out; omega
              have HPC : Hid (∀ w3, NdIn w3 (.slice (some ⟨b, 0, none⟩) n cap) l → Calls Tryd.prog 48 #[.slice (some ⟨b, 0, none⟩) n cap, .int .i64 (k : Int)] w3 fun e w' => (∃ o c, e = .returned (.slice o pn c)) ∧ Below w3.heap.size w3 w') := by
                unfold Hid; intro w3 h3
                refine (lcParts_any l k _ w3 h3 (by have := HNN.out; omega) (by have := HNN.out; omega)).mono ?_
                rintro e w' ⟨⟨uv, rfl, hown⟩, hB⟩
                obtain ⟨o', c', rfl⟩ := own_formT hown
                exact ⟨⟨o', c', by rw [natsI_len, ← hpn]⟩, hB⟩
              have HEN2 : Hid (nodeOk l k = ((decide (kd = 1) || (decide (kd = 2) || decide (kd = 3))) && endB R DP pn kd nm)) := by
                unfold Hid; rw [HEND.out, ← HRR.out, ← HDP.out]; unfold nodeEnd endB; rw [← HND.out, ← hpn]
              clear hpn
              have HVW : Hid (NdIn w2 (.slice (some ⟨b, 0, none⟩) n cap) l) := by unfold Hid; have := HV.out.below HW2.out; rw [HNN.out]; exact this
              go_wp2_with fail
              go_loopg [7, 8] (k + 1) (fun g dv at_ wx => ∃ (a : Int) (dd f : Nat), g = (a + 1).toNat ∧ dv = .int .i64 (dd : Int) ∧ at_ = .int .i64 a ∧ -1 ≤ a ∧ a ≤ (k : Int) ∧ a < f ∧ Hid (dd + dpF l f a = DP) ∧ dd ≤ DP ∧ w2 = wx)
              case atStart => exact ⟨(k : Int), 0, k + 1, by omega, rfl, by go_num, by omega, by omega, by omega, by unfold Hid; rw [HDP.out]; omega, by omega, rfl⟩
              case round =>
                obtain ⟨a, dd, f, hga, rfl, rfl, ha1, ha2, haf, HA, hdd, rfl⟩ := hrel
                by_cases ha0 : 0 ≤ a
                · obtain ⟨m, rfl⟩ : ∃ m : Nat, a = (m : Int) := ⟨a.toNat, by omega⟩
                  obtain ⟨nd, hnd⟩ : ∃ nd, nd = ndAt l m := ⟨_, rfl⟩
                  obtain ⟨b', e', hb', c0, c1, c2⟩ := (HV.out.below HW2.out).cells (by have := HNN.out; omega) hnd
                  cases e'
                  have hups := HUPS.out m (by omega)
                  have HUM : Hid (upN l m = nd.u) := by unfold Hid upN; rw [← hnd]
                  rw [HUM.out] at hups
                  clear hnd hb' c0 c1
                  obtain ⟨kd', nm', u'⟩ := nd
                  simp only at c2 HUM hups
                  have hst : dd + 1 + dpF l (f - 1) u' = DP := by
                    rw [← HA.out]
                    obtain ⟨f', rfl⟩ : ∃ f', f = f' + 1 := ⟨f - 1, by omega⟩
                    rw [dpF, if_neg (by omega), Int.toNat_natCast, HUM.out, Nat.add_sub_cancel]
                    omega
                  have HST := hideT' hst
                  have hdd1 : dd + 1 ≤ DP := by omega
                  clear hst
                  go_wp2
                  go_roundg ((u' + 1).toNat)
                  case measure => omega
                  case rel => exact ⟨u', dd + 1, f - 1, rfl, by go_num, rfl, hups.1, by omega, by omega, HST, hdd1, rfl⟩
                · have hdp : dd = DP := by
                    rw [← HA.out]
                    have : dpF l f a = 0 := by
                      cases f with
                      | zero => rfl
                      | succ f => rw [dpF, if_pos (by omega)]
                    omega
                  subst hdp
                  clear HA
                  by_cases hkd : kd = 1 ∨ kd = 2 ∨ kd = 3
                  · have HE4 : Hid (nodeOk l k = endB R dd pn kd nm) := by
                      unfold Hid; rw [HEN2.out]
                      rcases hkd with rfl | rfl | rfl <;> simp
                    cases R with
                    | false =>
                      have HF : Hid (r = false) := HBAD.out (by rw [HE4.out]; exact endB_R)
                      rcases hkd with rfl | rfl | rfl
                      all_goals (
                        go_wp2
                        go_ret
                        exact ⟨by rw [HF.out]; rfl, HW2.out⟩)
                    | true =>
                      by_cases hd40 : dd ≤ 40
                      · have hpc : pn = wantN kd ∨ ¬ pn = wantN kd := by omega
                        rcases hkd with rfl | rfl | rfl
                        all_goals (
                          go_wp2_with fail
                          refine (HPC.out _ HVW.out).mono ?_
                          rintro e w5 ⟨⟨o5, c5, rfl⟩, hB5⟩
                          have HB6 : Hid (Below w1.heap.size w1 w5) := HW2.out.trans (hB5.mono HW2.out.size)
                          have f0 := (hB5.cell (p := ⟨tb, 0, none⟩) HTB.out).trans d0
                          have f1 := (hB5.cell (p := ⟨tb, 1, none⟩) HTB.out).trans d1
                          clear hB5 d0 d1 d2
                          rcases hpc with hpc | hpc
                          · have HPW := hideT' hpc
                            simp only [wantN, Int.reduceEq, if_true, if_false] at hpc
                            subst hpc
                            by_cases hnm : 0 ≤ nm ∧ nm ≤ 99
                            · obtain ⟨hn1, hn2⟩ := hnm
                              have hb1 : decide (0 ≤ nm) = true := decide_eq_true hn1
                              have hb2 : decide (nm ≤ 99) = true := decide_eq_true hn2
                              go_wp2_with fail
                              refine (l1In_any nm 0 99 _).mono ?_
                              rintro e w6 ⟨rfl, hw6⟩
                              subst hw6
                              rw [hb1, hb2]
                              clear hb1 hb2
                              by_cases hn0 : nm = 0
                              · have HK : Hid (nodeOk l k = true) := by unfold Hid; rw [HE4.out]; exact endB_ok hd40 HPW.out hn1 hn2 (.inr hn0)
                                go_wp2
                                go_roundg (n - (k + 1))
                                case measure => omega
                                case rel => exact ⟨k + 1, rfl, by omega, by go_num, fun j hj => if e : j = k then by rw [e]; exact HK.out else HOK.out j (by omega), HB6.out⟩
                              · first
                                | (have HF : Hid (r = false) := HBAD.out (by rw [HE4.out]; exact endB_n0 (by decide) hn0)
                                   have hnb : (nm != 0) = true := by simpa using hn0
                                   go_wp2
                                   go_ret
                                   exact ⟨by rw [HF.out]; rfl, HB6.out⟩)
                                | (have HK : Hid (nodeOk l k = true) := by unfold Hid; rw [HE4.out]; exact endB_ok hd40 HPW.out hn1 hn2 (.inl rfl)
                                   go_wp2
                                   go_roundg (n - (k + 1))
                                   case measure => omega
                                   case rel => exact ⟨k + 1, rfl, by omega, by go_num, fun j hj => if e : j = k then by rw [e]; exact HK.out else HOK.out j (by omega), HB6.out⟩)
                            · have HF : Hid (r = false) := HBAD.out (by rw [HE4.out]; exact endB_nm hnm)
                              have hbb : (decide (0 ≤ nm) && decide (nm ≤ 99)) = false := by simpa using hnm
                              go_wp2_with fail
                              refine (l1In_any nm 0 99 _).mono ?_
                              rintro e w6 ⟨rfl, hw6⟩
                              subst hw6
                              rw [hbb]
                              clear hbb
                              go_wp2
                              go_ret
                              exact ⟨by rw [HF.out]; rfl, HB6.out⟩
                          · have HF : Hid (r = false) := HBAD.out (by rw [HE4.out]; exact endB_pn hpc)
                            simp only [wantN, Int.reduceEq, if_true, if_false] at hpc
                            have hpi : ∀ z : Nat, ¬ pn = z → ¬ (pn : Int) = (z : Int) := fun z h => by omega
                            have hpi2 := hpi _ hpc
                            clear hpi
                            simp only [Int.cast_ofNat_Int] at hpi2
                            go_wp2
                            go_ret
                            exact ⟨by rw [HF.out]; rfl, HB6.out⟩)
                      · have HF : Hid (r = false) := HBAD.out (by rw [HE4.out]; exact endB_dd hd40)
                        rcases hkd with rfl | rfl | rfl
                        all_goals (
                          go_wp2
                          go_ret
                          exact ⟨by rw [HF.out]; rfl, HW2.out⟩)
                  · have HF : Hid (r = false) := HBAD.out (by rw [HEN2.out]; have h1 : decide (kd = 1) = false := decide_eq_false (fun h => hkd (.inl h)); have h2 : decide (kd = 2) = false := decide_eq_false (fun h => hkd (.inr (.inl h))); have h3 : decide (kd = 3) = false := decide_eq_false (fun h => hkd (.inr (.inr h))); rw [h1, h2, h3]; rfl)
                    have hk1 : ¬ kd = 1 := fun h => hkd (.inl h)
                    have hk2 : ¬ kd = 2 := fun h => hkd (.inr (.inl h))
                    have hk3 : ¬ kd = 3 := fun h => hkd (.inr (.inr h))
                    clear hkd
                    go_wp2
                    go_ret
                    exact ⟨by rw [HF.out]; rfl, HW2.out⟩
          · have HF : Hid (r = false) := HBAD.out (by
              rw [nodeOk_eq, HUP.out]
              have : (decide (-1 ≤ u) && decide (u ≤ (k : Int) - 1)) = false := by simpa using hin
              rw [this]; simp)
            have hbb : (decide (-1 ≤ u) && decide (u ≤ (k : Int) - 1)) = false := by simpa using hin
            go_wp2_with fail
            refine (l1In_any u (-1) ((k : Int) - 1) _).mono ?_
            rintro e w2 ⟨rfl, hw2⟩
            rw [hbb]
            have HW2 : Hid (Below w1.heap.size w1 w2) := by unfold Hid; rw [hw2]; exact HW.out.alloc hsz _
            clear hbb hw2
            go_wp2
            go_ret
            exact ⟨by rw [HF.out]; rfl, HW2.out⟩
        · have HF : Hid (r = false) := HBAD.out (by
            rw [nodeOk_eq, HUP.out, ← HQ0.out, ← HQ1.out]
            have : (q0 == q1) = false := by simpa using hqq
            rw [this]; rfl)
          have HW2 : Hid (Below w1.heap.size w1 (wr.alloc (.cells #[.int .i64 kd, .int .i64 nm, .int .i64 u] 51))) := HW.out.alloc hsz _
          cases q0 <;> cases q1
          · exact absurd rfl hqq
          · go_wp2
            go_ret
            exact ⟨by rw [HF.out]; rfl, HW2.out⟩
          · go_wp2
            go_ret
            exact ⟨by rw [HF.out]; rfl, HW2.out⟩
          · exact absurd rfl hqq
      · have HT : Hid (r = true) := by
          unfold Hid; rw [HR.out]
          exact goodS_all HL.out (fun j hj => HOK.out j (by have := HNN.out; omega))
        go_wp2
        go_ret
        exact ⟨by rw [HT.out]; rfl, hW⟩
  · have HF : Hid (r = false) := by
      unfold Hid; rw [HR.out]
      refine goodS_short ?_
      rw [← hn]; simpa using hlen
    have hbb : (decide ((1 : Int) ≤ (n : Int)) && decide ((n : Int) ≤ (150 : Int))) = false := by
      rw [Bool.and_eq_false_iff, decide_eq_false_iff_not, decide_eq_false_iff_not]; omega
    clear hn
    go_enter Tryd.func25, Tryd.ntmps25
    go_wp2_with fail
    refine (l1In_any (n : Int) 1 150 _).mono ?_
    rintro e w1 ⟨rfl, rfl⟩
    rw [hbb]
    clear hbb
    go_wp2
    go_ret
    exact ⟨by rw [HF.out]; rfl, Below.refl _ _⟩
end Go.Proofs.YtgolfbjfopoeeaaDoor
