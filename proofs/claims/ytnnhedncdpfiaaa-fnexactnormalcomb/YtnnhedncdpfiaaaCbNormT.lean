/-
  What both NormalComb answer.
-/
import Derived.Test.YtnnhedncdpfiaaaTailStepCombA
namespace Go.Proofs.Ytnnhedncdpfiaaa.CB
open Go.RowKit BL
set_option linter.unusedVariables false

def Lm.norm : Nat → Lm → Option (Lm × Nat)
  | 0, t => if t.can = false then some (t, 0) else none
  | f + 1, t => if t.can = false then some (t, 0) else if t.nx.good then (Lm.norm f t.nx).map (fun p => (p.1, p.2 + 1)) else none
theorem norm_nil {f : Nat} {t : Lm} (h : t.can = false) : Lm.norm f t = some (t, 0) := by
  cases f <;> rw [Lm.norm, if_pos h]
theorem norm_zero {t : Lm} (h : t.can = true) : Lm.norm 0 t = none := by rw [Lm.norm, if_neg (by simp [h])]
theorem norm_bad {f : Nat} {t : Lm} (h : t.can = true) (hg : t.nx.good = false) : Lm.norm f t = none := by
  cases f with
  | zero => exact norm_zero h
  | succ f => rw [Lm.norm, if_neg (by simp [h]), if_neg (by simp [hg])]
theorem norm_step {f : Nat} {t : Lm} (h : t.can = true) (hg : t.nx.good = true) : Lm.norm (f + 1) t = (Lm.norm f t.nx).map (fun p => (p.1, p.2 + 1)) := by
  rw [Lm.norm, if_neg (by simp [h]), if_pos hg]
/-- Steps that were made already. -/
def more (j : Nat) (o : Option (Lm × Nat)) : Option (Lm × Nat) := o.map (fun p => (p.1, p.2 + j))
theorem more_zero (o : Option (Lm × Nat)) : more 0 o = o := by cases o <;> rfl
theorem more_step (j : Nat) (o : Option (Lm × Nat)) : more j (o.map (fun p => (p.1, p.2 + 1))) = more (j + 1) o := by cases o <;> simp [more]; omega
def NmO (l : List Nd) (fuel : Int) : Option (Lm × Nat) := match readP' l with
  | some t => if 0 ≤ fuel ∧ fuel ≤ 1000 then Lm.norm fuel.toNat t else none
  | none => none
def NmT (l : List Nd) (fuel : Int) : Option Lm := (NmO l fuel).map Prod.fst
def NmTN (l : List Nd) (fuel : Int) : Int := match NmO l fuel with
  | some p => (p.2 : Int)
  | none => 0
def NmOut (w : World) (l : List Nd) (fuel : Int) (e : Ending) (w' : World) : Prop := ∃ u, e = .returned (.tuple #[u, .int .i64 (NmTN l fuel), .bool (toldB (NmT l fuel))]) ∧ OwnR w' w.heap.size u 64 combL 3 (toldL (NmT l fuel))
theorem NmOut.bad {w w' : World} {l : List Nd} {fuel : Int} (h : NmO l fuel = none) : NmOut w l fuel (.returned (.tuple #[.slice none 0 0, .int .i64 0, .bool false])) w' := by
  refine ⟨.slice none 0 0, by unfold NmTN NmT; rw [h]; rfl, by unfold NmT; rw [h]; exact World.ownsRow_nil _ _ _ _⟩
theorem NmOut.told {w w1 w' : World} {l : List Nd} {fuel : Int} {t : Lm} {j : Nat} {u : Value} (h : NmO l fuel = some (t, j)) (hO : OwnR w' w1.heap.size u 64 combL 3 (toldL (some t))) (hs : w.heap.size ≤ w1.heap.size) : NmOut w l fuel (.returned (.tuple #[u, .int .i64 (j : Int), .bool t.good])) w' := by
  refine ⟨u, by unfold NmTN NmT; rw [h]; simp [toldB], ?_⟩
  unfold NmT
  rw [h]
  simp only [Option.map_some]
  exact ⟨hO.1, hO.2.imp id fun ⟨g, cap, cur, h1, h2, h3⟩ => ⟨g, cap, cur, h1, Nat.le_trans hs h2, h3⟩⟩
theorem NmO_l {l : List Nd} {k : Int} (h : readP' l = none) : NmO l k = none := by unfold NmO; rw [h]
theorem NmO_k {l : List Nd} {k : Int} (h : ¬ (0 ≤ k ∧ k ≤ 1000)) : NmO l k = none := by unfold NmO; cases readP' l <;> simp [h]
theorem NmO_ok {l : List Nd} {F : Nat} {t : Lm} (h1 : readP' l = some t) (h : F ≤ 1000) : NmO l (F : Int) = more 0 (Lm.norm F t) := by unfold NmO; rw [h1, more_zero]; simp; omega
theorem can_frst (t : Lm) : t.can = t.frst.isSome := by unfold Lm.can; rw [Lm.stp_frst]; simp
theorem nx_frst {t : Lm} {k : Nat} (h : t.frst = some k) : t.nx = Lm.chgAt con t k := by unfold Lm.nx; rw [Lm.stp_frst, h]; rfl
theorem good_szC {t : Lm} (h : t.good = true) : t.sz ≤ 200 ∧ t.ok = true := by
  simp only [Lm.good, Bool.and_eq_true, decide_eq_true_eq] at h
  exact ⟨h.2.1, h.1⟩
set_option maxHeartbeats 8000000 in
theorem implNormalComb_any (l : List Nd) (fuel : Int) (v : Value) (w : World) (hv : NdIn w v l) (hl : l.length ≤ 1048576) :
    Calls Try.prog 36 #[v, .int .i64 fuel] w fun e w' => NmOut w l fuel e w' ∧ Below w.heap.size w w' := by
  have HC := hideT' (readTree_any l v w hv hl)
  clear hv
  go_enter Try.func36, Try.ntmps36
  go_wp2_with fail
  refine HC.out.mono ?_
  rintro e w1 ⟨hans, hB1⟩
  have HB1 := hideT' hB1
  clear hB1
  rcases hans with ⟨p, rfl, hn⟩ | ⟨t, b, rfl, hr, hT⟩
  · have HN := hideT' (NmO_l (k := fuel) hn)
    clear hn
    go_wp2
    go_ret3
    exact ⟨NmOut.bad HN.out, HB1.out⟩
  · by_cases hk : 0 ≤ fuel ∧ fuel ≤ 1000
    · obtain ⟨F, rfl⟩ : ∃ F : Nat, fuel = (F : Int) := ⟨fuel.toNat, by omega⟩
      have hF : F ≤ 1000 := by omega
      have HN := hideT' (NmO_ok hr hF)
      have f1 := readP'_facts hr
      have HC2 := hideT' (firstRedex_any t b _ w1 hT (by omega))
      have HT0 := hideT' (And.intro hT f1.2.2.2.2)
      have hf0 : ¬ (F : Int) < 0 := by omega
      have hf1 : ¬ (1000 : Int) < (F : Int) := by omega
      clear hT hr f1 hk
      go_wp2_with fail
      refine HC2.out.mono ?_
      rintro e w2 ⟨⟨k0, rfl, hk0⟩, hB2⟩
      obtain ⟨q0, hq0⟩ : ∃ q, q = t.frst.isSome := ⟨_, rfl⟩
      have HS0 : Hid (TrIn w2 (fun _ => True) t b ∧ t.good = true ∧ (q0 = t.frst.isSome ∧ (q0 = true → t.frst = some k0)) ∧ Below w.heap.size w w2) := ⟨TrIn.keep (w := w1) hB2.size (fun x _ hx => hB2.block x hx) (fun _ _ _ => trivial) HT0.out.1, HT0.out.2, ⟨hq0, fun e => hk0 (by rw [← hq0]; exact e)⟩, HB1.out.trans (hB2.mono HB1.out.size)⟩
      rw [← hq0]
      clear hB2 hk0 hq0
      go_wp2_with fail
      go_loopg [7, 9, 10, 11] (F + 1) (fun g tv sv av ov wr => ∃ (T : Lm) (bt j k : Nat) (q : Bool), g = F + 1 - j ∧ j ≤ F ∧ tv = .pointer (some ⟨bt, 0, none⟩) ∧ sv = .int .i64 (j : Int) ∧ av = .int .i64 (k : Int) ∧ ov = .bool q ∧ Hid (TrIn wr (fun _ => True) T bt ∧ T.good = true ∧ (q = T.frst.isSome ∧ (q = true → T.frst = some k)) ∧ Below w.heap.size w wr) ∧ Hid (NmO l (F : Int) = more j (Lm.norm (F - j) T)))
      case atStart => exact ⟨t, b, 0, k0, q0, rfl, by omega, rfl, rfl, rfl, rfl, HS0, HN⟩
      case round =>
        obtain ⟨T, bt, j, k, q, hg, hj, rfl, rfl, rfl, rfl, HS, HNN⟩ := hrel
        obtain ⟨hTr, hgood, hq, hBr⟩ := HS.out
        have hgs := good_szC hgood
        cases q with
        | false =>
          have HE : Hid (NmO l (F : Int) = some (T, j)) := by unfold Hid; rw [HNN.out, norm_nil (by rw [can_frst, ← hq.1])]; simp [more]
          have HC3 := hideT' (tellTree_any T bt _ wr hTr (by omega))
          have HG := hideT' hBr
          clear hTr hgood hBr HS hgs hq
          go_wp2_with fail
          refine HC3.out.mono ?_
          rintro e w5 ⟨hT5, hB5⟩
          obtain ⟨u5, rfl, hO5⟩ := hT5
          have HF : Hid (NmOut w l (F : Int) (.returned (.tuple #[u5, .int .i64 (j : Int), .bool T.good])) w5 ∧ Below w.heap.size w w5) := ⟨NmOut.told HE.out hO5 HG.out.size, HG.out.trans (hB5.mono HG.out.size)⟩
          obtain ⟨qg, hqg⟩ : ∃ q, q = T.good := ⟨_, rfl⟩
          rw [← hqg] at HF ⊢
          clear hO5 hB5 hqg
          go_wp2
          go_ret3
          exact HF.out
        | true =>
          have hfr := hq.2 rfl
          obtain ⟨s, hs1, hs2⟩ := Lm.frst_sub hfr
          have HCAN : Hid (T.can = true ∧ T.nx = Lm.chgAt con T k) := ⟨by rw [can_frst, ← hq.1], nx_frst hfr⟩
          have HC3 := hideT' (changedCon_any T s bt k _ wr hTr hs1 hs2 (by omega) (Lm.ok_bd hgs.2))
          have HSZ : Hid ((Lm.chgAt con T k).sz ≤ 1000000) := by
            unfold Hid
            rw [← chgAt_conS T k (by omega)]
            have := chgAt_szle conS 400 conS_sz T k
            omega
          have HBR := hideT' hBr
          clear hTr hgood hq hBr HS hs1 hs2 hfr
          go_wp2_with fail
          refine HC3.out.mono ?_
          rintro e w5 ⟨⟨b5, rfl, hT5⟩, hB5⟩
          obtain ⟨T', hT'⟩ : ∃ T', T' = Lm.chgAt con T k := ⟨_, rfl⟩
          rw [← hT'] at hT5 HSZ
          have HTT : Hid (T.nx = T') := by unfold Hid; rw [HCAN.out.2, hT']
          have HB5 : Hid (Below w.heap.size w w5) := HBR.out.trans (hB5.mono HBR.out.size)
          have HT5 : Hid (TrIn w5 (fun _ => True) T' b5) := TrIn.mono (fun _ _ _ => trivial) hT5
          clear hT5 hB5 hT'
          by_cases hfl : (F : Int) < (j : Int) + 1
          · have HE : Hid (NmO l (F : Int) = none) := by
              unfold Hid
              rw [HNN.out, show F - j = 0 by omega, norm_zero HCAN.out.1]; rfl
            go_wp2
            go_ret3
            exact ⟨NmOut.bad HE.out, HB5.out⟩
          · have HC4 := hideT' (isGood_any T' b5 _ w5 HT5.out (by have := HSZ.out; omega))
            obtain ⟨q, hq⟩ : ∃ q, q = T'.good := ⟨_, rfl⟩
            rw [← hq] at HC4
            have HQ := hideT' hq
            clear hq
            go_wp2_with fail
            refine HC4.out.mono ?_
            rintro e w6 ⟨rfl, hB6⟩
            have HB6 : Hid (Below w.heap.size w w6) := HB5.out.trans (hB6.mono HB5.out.size)
            have HT6 : Hid (TrIn w6 (fun _ => True) T' b5) := TrIn.below hB6 HT5.out
            clear hB6
            cases q with
            | false =>
              have HE : Hid (NmO l (F : Int) = none) := by
                unfold Hid
                rw [HNN.out, norm_bad HCAN.out.1 (by rw [HTT.out]; exact HQ.out.symm)]; rfl
              go_wp2
              go_ret3
              exact ⟨NmOut.bad HE.out, HB6.out⟩
            | true =>
              have HE : Hid (NmO l (F : Int) = more (j + 1) (Lm.norm (F - (j + 1)) T')) := by
                unfold Hid
                rw [HNN.out, show F - j = F - (j + 1) + 1 by omega, norm_step HCAN.out.1 (by rw [HTT.out]; exact HQ.out.symm), more_step, HTT.out]
              have HC5 := hideT' (firstRedex_any T' b5 _ w6 HT6.out (by have := HSZ.out; omega))
              go_wp2_with fail
              refine HC5.out.mono ?_
              rintro e w7 ⟨⟨k7, rfl, hk7⟩, hB7⟩
              obtain ⟨q7, hq7⟩ : ∃ q, q = T'.frst.isSome := ⟨_, rfl⟩
              have HS7 : Hid (TrIn w7 (fun _ => True) T' b5 ∧ T'.good = true ∧ (q7 = T'.frst.isSome ∧ (q7 = true → T'.frst = some k7)) ∧ Below w.heap.size w w7) := ⟨TrIn.below hB7 HT6.out, HQ.out.symm, ⟨hq7, fun e => hk7 (by rw [← hq7]; exact e)⟩, HB6.out.trans (hB7.mono HB6.out.size)⟩
              rw [← hq7]
              clear hk7 hB7 hq7
              go_wp2
              go_roundg (F + 1 - (j + 1))
              case measure => omega
              case rel => exact ⟨T', b5, j + 1, k7, q7, rfl, by omega, rfl, by go_num, rfl, rfl, HS7, HE⟩
    · have HN := hideT' (NmO_k (l := l) hk)
      clear hr hT
      by_cases h0 : fuel < 0
      · go_wp2
        go_ret3
        exact ⟨NmOut.bad HN.out, HB1.out⟩
      · have h9 : 1000 < fuel := by omega
        go_wp2
        go_ret3
        exact ⟨NmOut.bad HN.out, HB1.out⟩
set_option maxHeartbeats 8000000 in
theorem specNormalComb_any (l : List Nd) (fuel : Int) (v : Value) (w : World) (hv : NdIn w v l) (hl : l.length ≤ 1048576) :
    Calls Try.prog 35 #[v, .int .i64 fuel] w fun e w' => NmOut w l fuel e w' ∧ Below w.heap.size w w' := by
  have hz0 := zero_lcT.1
  have HV := hideT' hv
  have HC := hideT' (specGoodComb_any l v w hv hl)
  clear hv
  cases hr : readP' l with
  | none =>
    have HN := hideT' (NmO_l (k := fuel) hr)
    rw [goodS_none hr] at HC
    clear hr
    go_enter Try.func35, Try.ntmps35
    go_wp2_with fail
    refine HC.out.mono ?_
    rintro e w1 ⟨rfl, hB1⟩
    go_wp2
    go_ret3
    exact ⟨NmOut.bad HN.out, hB1⟩
  | some t =>
    rw [goodS_some hr] at HC
    have HF1 := hideT' (readP'_facts hr)
    have HR := hideT' hr
    clear hr
    go_enter Try.func35, Try.ntmps35
    go_wp2_with fail
    refine HC.out.mono ?_
    rintro e w2 ⟨rfl, hB2⟩
    have HB2 := hideT' hB2
    clear hB2
    go_wp2_with fail
    refine (l1In_any fuel 0 1000 _).mono ?_
    rintro e w3 ⟨rfl, hw3⟩
    rw [hw3]
    clear hw3
    by_cases hk : 0 ≤ fuel ∧ fuel ≤ 1000
    · obtain ⟨F, rfl⟩ : ∃ F : Nat, fuel = (F : Int) := ⟨fuel.toNat, by omega⟩
      have hF : F ≤ 1000 := by omega
      have HN := hideT' (NmO_ok HR.out hF)
      rw [decide_eq_true hk.1, decide_eq_true hk.2]
      clear hk
      have HC3 := hideT' (lcTree_whole l t v w2 (HV.out.below HB2.out) HR.out)
      go_wp2_with fail
      refine HC3.out.mono ?_
      rintro e w4 ⟨⟨z4, rfl, hz4⟩, hB4⟩
      obtain ⟨o4, c4, hzz4⟩ := hz4.form
      subst hzz4
      obtain ⟨W, hWd⟩ : ∃ W, W = w4.alloc (.cells #[.int .i64 t.kd, .int .i64 t.nm, .slice o4 t.kids.length c4] 75) := ⟨_, rfl⟩
      obtain ⟨B, hBe⟩ : ∃ B, B = w4.heap.size := ⟨_, rfl⟩
      have hBW : Below w4.heap.size w4 W := by rw [hWd]; exact (Below.refl _ _).alloc (Nat.le_refl _) _
      have HWB : Hid (w.heap.size ≤ B) := by unfold Hid; rw [hBe]; have := HB2.out.size; have := hB4.size; omega
      have HS0 : Hid (RowAt W B 75 (lcC t.kd t.nm (.slice o4 t.kids.length c4)) ∧ LcIn W (fun x => x ≠ B) t (.slice o4 t.kids.length c4) ∧ t.good = true ∧ Below w.heap.size w W) := by
        refine ⟨by rw [hWd, hBe]; exact RowAt.new _ _ _, LcIn.keep (w := w4) (P := _) hBW.size (fun x _ hx => hBW.block x hx) (fun x _ hx => by omega) hz4, HF1.out.2.2.2.2, (HB2.out.trans (hB4.mono HB2.out.size)).trans (hBW.mono ((HB2.out.trans (hB4.mono HB2.out.size))).size)⟩
      unfold lcC
      clear hB4 hz4 hBW
      go_wp2_with fail
      rw [← hWd, ← hBe]
      clear hWd hBe
      go_loopg [8] (F + 1) (fun g nv wr => ∃ (T : Lm) (oz : Option Addr) (cz : Nat) (j : Nat), g = F + 1 - j ∧ j ≤ F ∧ nv = .int .i64 (j : Int) ∧ Hid (RowAt wr B 75 (lcC T.kd T.nm (.slice oz T.kids.length cz)) ∧ LcIn wr (fun x => x ≠ B) T (.slice oz T.kids.length cz) ∧ T.good = true ∧ Below w.heap.size w wr) ∧ Hid (NmO l (F : Int) = more j (Lm.norm (F - j) T)))
      case atStart => exact ⟨t, o4, c4, 0, rfl, by omega, rfl, HS0, HN⟩
      case round =>
        obtain ⟨T, oz, cz, j, hg, hj, rfl, HS, HNN⟩ := hrel
        have r0 : wr.cell? ⟨B, 0, none⟩ = some (.int .i64 T.kd) := by rw [cell_of_row _ _ _ _ _ _ HS.out.1]; rfl
        have r1 : wr.cell? ⟨B, 1, none⟩ = some (.int .i64 T.nm) := by rw [cell_of_row _ _ _ _ _ _ HS.out.1]; rfl
        have r2 : wr.cell? ⟨B, 2, none⟩ = some (.slice oz T.kids.length cz) := by rw [cell_of_row _ _ _ _ _ _ HS.out.1]; rfl
        have hbl := HS.out.1.lt
        have HC5 := hideT' (ldStep_all T.sz T (Nat.le_refl _) (.slice oz T.kids.length cz) _ wr HS.out.2.1)
        unfold lcC at HC5
        go_wp2_with fail
        refine HC5.out.mono ?_
        rintro e w5 ⟨⟨z5, rfl, hz5⟩, hB5⟩
        obtain ⟨o5, c5, hzz5⟩ := hz5.form
        subst hzz5
        obtain ⟨X, hX⟩ : ∃ X, X = T.nx := ⟨_, rfl⟩
        obtain ⟨q, hq⟩ : ∃ q, q = T.can := ⟨_, rfl⟩
        rw [← hX] at hz5 ⊢
        rw [← hq]
        have HQX : Hid (T.can = q ∧ T.nx = X) := ⟨hq.symm, hX.symm⟩
        obtain ⟨W6, hW6⟩ : ∃ W6, W6 = w5.alloc (.cells #[.int .i64 X.kd, .int .i64 X.nm, .slice o5 X.kids.length c5] 75) := ⟨_, rfl⟩
        have hB56 : Below w5.heap.size w5 W6 := by rw [hW6]; exact (Below.refl _ _).alloc (Nat.le_refl _) _
        have hBr6 : Below wr.heap.size wr W6 := hB5.trans (hB56.mono hB5.size)
        have HB6 : Hid (Below w.heap.size w W6) := HS.out.2.2.2.trans (hBr6.mono HS.out.2.2.2.size)
        have HR6 : Hid (RowAt W6 B 75 (lcC T.kd T.nm (.slice oz T.kids.length cz)) ∧ RowAt W6 w5.heap.size 75 (lcC X.kd X.nm (.slice o5 X.kids.length c5))) := ⟨HS.out.1.below hBr6 hbl, by rw [hW6]; exact RowAt.new _ _ _⟩
        have HX6 : Hid (LcIn W6 (fun x => x ≠ B) X (.slice o5 X.kids.length c5)) := LcIn.below hB56 (LcIn.mono (fun x hx _ => by rcases hx with hx | hx; exact hx; omega) hz5)
        have HT6 : Hid (LcIn W6 (fun x => x ≠ B) T (.slice oz T.kids.length cz)) := LcIn.below hBr6 HS.out.2.1
        have HGT : Hid (T.good = true) := HS.out.2.2.1
        have HB56 : Hid (B < w5.heap.size) := by have := hB5.size; unfold Hid; omega
        clear r0 r1 r2 hq hX hz5 hB5 hB56 hBr6 HS HC5
        have hw5b := HB56.out
        cases q with
        | false =>
          have HE : Hid (NmO l (F : Int) = some (T, j)) := by unfold Hid; rw [HNN.out, norm_nil HQX.out.1]; simp [more]
          have r0 : (w5.alloc (.cells #[.int .i64 X.kd, .int .i64 X.nm, .slice o5 X.kids.length c5] 75)).cell? ⟨B, 0, none⟩ = some (.int .i64 T.kd) := by rw [← hW6, cell_of_row _ _ _ _ _ _ HR6.out.1]; rfl
          have r1 : (w5.alloc (.cells #[.int .i64 X.kd, .int .i64 X.nm, .slice o5 X.kids.length c5] 75)).cell? ⟨B, 1, none⟩ = some (.int .i64 T.nm) := by rw [← hW6, cell_of_row _ _ _ _ _ _ HR6.out.1]; rfl
          have r2 : (w5.alloc (.cells #[.int .i64 X.kd, .int .i64 X.nm, .slice o5 X.kids.length c5] 75)).cell? ⟨B, 2, none⟩ = some (.slice oz T.kids.length cz) := by rw [← hW6, cell_of_row _ _ _ _ _ _ HR6.out.1]; rfl
          have HC6 := hideT' (lcTold_any T (.slice oz T.kids.length cz) _ W6 HT6.out)
          unfold lcC at HC6
          go_wp2_with fail
          rw [← hW6]
          refine HC6.out.mono ?_
          rintro e w7 ⟨hT7, hB7⟩
          obtain ⟨u7, rfl, hO7⟩ := hT7
          have HF : Hid (NmOut w l (F : Int) (.returned (.tuple #[u7, .int .i64 (j : Int), .bool true])) w7 ∧ Below w.heap.size w w7) := ⟨by have := NmOut.told HE.out hO7 HB6.out.size; rwa [HGT.out] at this, HB6.out.trans (hB7.mono HB6.out.size)⟩
          obtain ⟨qg, hqg⟩ : ∃ q, q = T.good := ⟨_, rfl⟩
          rw [← hqg]
          clear hO7 hB7 hqg r0 r1 r2 hW6
          go_wp2
          go_ret3
          exact HF.out
        | true =>
          have HC6 := hideT' (lcTold_any X (.slice o5 X.kids.length c5) _ W6 HX6.out)
          unfold lcC at HC6
          go_wp2_with fail
          rw [← hW6]
          refine HC6.out.mono ?_
          rintro e w7 ⟨hT7, hB7⟩
          obtain ⟨u7, rfl, hO7⟩ := hT7
          have HB7 : Hid (Below w.heap.size w w7) := HB6.out.trans (hB7.mono HB6.out.size)
          have HR7 : Hid (RowAt w7 B 75 (lcC T.kd T.nm (.slice oz T.kids.length cz)) ∧ RowAt w7 w5.heap.size 75 (lcC X.kd X.nm (.slice o5 X.kids.length c5))) := ⟨HR6.out.1.below hB7 HR6.out.1.lt, HR6.out.2.below hB7 HR6.out.2.lt⟩
          have HX7 : Hid (LcIn w7 (fun x => x ≠ B) X (.slice o5 X.kids.length c5)) := LcIn.below hB7 HX6.out
          obtain ⟨qg, hqg⟩ : ∃ q, q = X.good := ⟨_, rfl⟩
          rw [← hqg]
          have HQG := hideT' hqg
          clear hO7 hB7 hqg hW6
          cases qg with
          | false =>
            have HE : Hid (NmO l (F : Int) = none) := by
              unfold Hid
              rw [HNN.out, norm_bad HQX.out.1 (by rw [HQX.out.2]; exact HQG.out.symm)]; rfl
            go_wp2
            go_ret3
            exact ⟨NmOut.bad HE.out, HB7.out⟩
          | true =>
            by_cases hjF : j = F
            · have HE : Hid (NmO l (F : Int) = none) := by
                unfold Hid
                rw [HNN.out, show F - j = 0 by omega, norm_zero HQX.out.1]; rfl
              subst hjF
              go_wp2
              go_ret3
              exact ⟨NmOut.bad HE.out, HB7.out⟩
            · have HE : Hid (NmO l (F : Int) = more (j + 1) (Lm.norm (F - (j + 1)) X)) := by
                unfold Hid
                rw [HNN.out, show F - j = F - (j + 1) + 1 by omega, norm_step HQX.out.1 (by rw [HQX.out.2]; exact HQG.out.symm), more_step, HQX.out.2]
              have hne : ¬ (j : Int) = (F : Int) := by omega
              have hnb : ((j : Int) == (F : Int)) = false := by simp only [beq_eq_false_iff_ne]; exact hne
              have x0 : w7.cell? ⟨w5.heap.size, 0, none⟩ = some (.int .i64 X.kd) := by rw [cell_of_row _ _ _ _ _ _ HR7.out.2]; rfl
              have x1 : w7.cell? ⟨w5.heap.size, 1, none⟩ = some (.int .i64 X.nm) := by rw [cell_of_row _ _ _ _ _ _ HR7.out.2]; rfl
              have x2 : w7.cell? ⟨w5.heap.size, 2, none⟩ = some (.slice o5 X.kids.length c5) := by rw [cell_of_row _ _ _ _ _ _ HR7.out.2]; rfl
              go_wp2_with (refine store_3 rfl 75 _ _ rfl rfl zero_lcT.2 B (lcC X.kd X.nm (.slice o5 X.kids.length c5)) rfl (lcC_one _ _ _ rfl) rfl rfl (lcC T.kd T.nm (.slice oz T.kids.length cz)) rfl HR7.out.1 ?_; intro w8 hR8 hg8 hs8)
              have HS8 : Hid (RowAt w8 B 75 (lcC X.kd X.nm (.slice o5 X.kids.length c5)) ∧ LcIn w8 (fun x => x ≠ B) X (.slice o5 X.kids.length c5) ∧ X.good = true ∧ Below w.heap.size w w8) :=
                ⟨hR8, LcIn.keep (w := w7) (by omega) (fun x hx hl => hg8.block x hl (fun e => hx (by cases e; rfl))) (fun _ h _ => h) HX7.out, HQG.out.symm, HB7.out.grown hg8 HB7.out.size (by intro k hk; cases hk; exact HWB.out)⟩
              clear hR8 hg8 hs8 x0 x1 x2
              go_wp2
              go_roundg (F + 1 - (j + 1))
              case measure => omega
              case rel => exact ⟨X, o5, c5, j + 1, rfl, by omega, by go_num, HS8, HE⟩
    · have HN := hideT' (NmO_k (l := l) hk)
      have hbb : (decide (0 ≤ fuel) && decide (fuel ≤ 1000)) = false := by simpa using hk
      rw [hbb]
      clear hbb hk
      go_wp2
      go_ret3
      exact ⟨NmOut.bad HN.out, HB2.out⟩
end Go.Proofs.Ytnnhedncdpfiaaa.CB
