/-
  The texts MacSpec, MacAdd, MacImpl, one behind the other.
-/
import Derived.Test.YtehjejjkfeljmaaGreatDoorPkMacSound
import Derived.Test.YtehjejjkfeljmaaGreatDoorMacLaw
import Derived.Test.YtehjejjkfeljmaaGreatDoorPkSpecMul

/-
  Good macros (plain), and what GoodMacro of the model answers.
-/
namespace Go.Proofs.YtehjejjkfeljmaaGreatDoor
open Go.RowKit
set_option linter.unusedVariables false

noncomputable def ruleOk (r : ByteArray × ByteArray) : Bool := (match oneT r.1 with | some A => decide (A.k = 5) | none => false) && (oneT r.2).isSome
/-- A good macro. -/
noncomputable def macOk (m : Mac) : Bool := (symOk m.name.data.toList && !inL kwL m.name) && (decide (m.lits.length ≤ 10) && decide (1 ≤ m.rules.length ∧ m.rules.length ≤ 10)) && (m.lits.all (fun s => symOk s.data.toList) && m.rules.all ruleOk)

theorem OneAns.form {T : TypeId} {O : Option Tr} {w w' : World} {e : Ending} (h : OneAns T O w e w') : ∃ (k : Int) (t : ByteArray) (o : Option Addr) (n c : Nat), e = .returned (.tuple #[.agg #[.int .i64 k, .string t, .slice o n c], .bool O.isSome]) ∧ (∀ A, O = some A → k = A.k) ∧ Below w.heap.size w w' := by
  unfold OneAns at h
  cases O with
  | none => exact ⟨0, ⟨#[]⟩, none, 0, 0, h.1, (fun A hA => by cases hA), h.2⟩
  | some A =>
    obtain ⟨k, t, ks⟩ := A
    obtain ⟨z, h1, h2, h3, h4⟩ := h
    obtain ⟨o, c, rfl⟩ := h2.len
    exact ⟨k, t, o, _, c, h1, (fun A hA => by injection hA with hA; rw [← hA]; rfl), h4⟩

theorem all_take {X : Type} [Inhabited X] (f : X → Bool) (l : List X) (k : Nat) (hk : k < l.length) (h : l.all f = (l.drop k).all f) : l.all f = (f (l.getD k default) && (l.drop (k + 1)).all f) := by
  rw [h, List.drop_eq_getElem_cons hk, List.all_cons, List.getD, List.getElem?_eq_getElem hk]
  rfl

set_option maxHeartbeats 4000000 in
set_option maxRecDepth 100000 in
theorem specGoodMacro_any (m : Mac) (b c : Nat) (w : World) (hs : MacSmall m 1048576) (hM : MacAt w b c m) :
    Calls Tryz.prog 13 #[.agg (macC b c m)] w fun e w' => e = .returned (.bool (macOk m)) ∧ Below w.heap.size w w' := by
  obtain ⟨nm, lits, rules⟩ := m
  obtain ⟨s1, s2, s3, s4, s5⟩ := hs
  simp only at s1 s2 s3 s4 s5
  have hzr := zero_rule.1
  have hzt := zero_t4.1
  have lb := hM.1.lt
  have lc := hM.2.lt
  have hML : RecAt w b 9 stringL lits := hM.1
  have hMR : RecAt w c 32 ruleL rules := hM.2
  have HM := hideT' (And.intro hML hMR)
  have HS := hideT' (And.intro s4 s5)
  have hmx : nm.size ≤ maxLen := by unfold maxLen; omega
  have hR0 := RowAt.new w 26 #[.string nm, slR b lits, slR c rules]
  have HR0 := hideT' hR0
  have hB0 : Below w.heap.size w (w.alloc (.cells #[.string nm, slR b lits, slR c rules] 26)) := (Below.refl _ _).alloc (Nat.le_refl _) _
  -- what every later world knows
  have HF : Hid (∀ w', Below (w.heap.size + 1) (w.alloc (.cells #[.string nm, slR b lits, slR c rules] 26)) w' → (w'.cell? ⟨w.heap.size, 0, none⟩ = some (.string nm) ∧ w'.cell? ⟨w.heap.size, 1, none⟩ = some (slR b lits) ∧ w'.cell? ⟨w.heap.size, 2, none⟩ = some (slR c rules)) ∧ Below w.heap.size w w' ∧ w.heap.size + 1 ≤ w'.heap.size) := by
    intro w' h
    have hr := RowAt.below HR0.out h (by omega)
    refine ⟨⟨?_, ?_, ?_⟩, hB0.trans (h.mono (by omega)), by have := h.size; simpa using this⟩ <;> (rw [cell_of_row w' _ _ _ _ _ hr]; rfl)
  have HE : Hid (macOk ⟨nm, lits, rules⟩ = ((symOk nm.data.toList && !inL kwL nm) && (decide (lits.length ≤ 10) && decide (1 ≤ rules.length ∧ rules.length ≤ 10)) && (lits.all (fun s => symOk s.data.toList) && rules.all ruleOk))) := rfl
  have HC1 := hideT' (l3Symbol_any nm (w.alloc (.cells #[.string nm, slR b lits, slR c rules] 26)) hmx)
  clear hM hML hMR s1 s4 s5 hR0 hB0 hmx
  show Calls Tryz.prog 13 #[.agg #[.string nm, slR b lits, slR c rules]] w _
  go_enter Tryz.func13, Tryz.ntmps13
  go_wp2_with fail
  refine HC1.out.mono ?_
  rintro e w1 ⟨rfl, hB1⟩
  have hB1' : Below (w.heap.size + 1) (w.alloc (.cells #[.string nm, slR b lits, slR c rules] 26)) w1 := hB1.mono (by simp)
  obtain ⟨⟨f0, f1, f2⟩, hT1, hs1⟩ := HF.out w1 hB1'
  obtain ⟨q1, hq1⟩ : ∃ q, q = symOk nm.data.toList := ⟨_, rfl⟩
  rw [← hq1]
  have HQ1 := hideT' hq1
  clear hq1 hB1
  cases q1 with
  | false =>
    have HN : Hid (macOk ⟨nm, lits, rules⟩ = false) := by unfold Hid; rw [HE.out, ← HQ1.out]; rfl
    go_wp2
    go_ret
    exact ⟨by rw [HN.out]; rfl, hT1⟩
  | true =>
  have HC2 := hideT' (specIsKeyword_any nm w1)
  go_wp2_with fail
  refine HC2.out.mono ?_
  rintro e w2 ⟨rfl, hB2⟩
  have hB2' := hB1'.trans (hB2.mono hs1)
  obtain ⟨⟨g0, g1, g2⟩, hT2, hs2⟩ := HF.out w2 hB2'
  obtain ⟨q2, hq2⟩ : ∃ q, q = inL kwL nm := ⟨_, rfl⟩
  rw [← hq2]
  have HQ2 := hideT' hq2
  clear hq2 hB2 f0 f1 f2 hT1
  cases q2 with
  | true =>
    have HN : Hid (macOk ⟨nm, lits, rules⟩ = false) := by unfold Hid; rw [HE.out, ← HQ1.out, ← HQ2.out]; rfl
    go_wp2
    go_ret
    exact ⟨by rw [HN.out]; rfl, hT2⟩
  | false =>
  by_cases hl10 : (10 : Int) < (lits.length : Int)
  · have HN : Hid (macOk ⟨nm, lits, rules⟩ = false) := by
      unfold Hid; rw [HE.out, decide_eq_false (show ¬ lits.length ≤ 10 by omega)]; simp
    go_wp2
    go_ret
    exact ⟨by rw [HN.out]; rfl, hT2⟩
  have HC3 := hideT' (l1In_any (rules.length : Int) 1 10 w2)
  go_wp2_with fail
  refine HC3.out.mono ?_
  rintro e w3 ⟨rfl, rfl⟩
  by_cases hr10 : ¬ (1 ≤ rules.length ∧ rules.length ≤ 10)
  · have HN : Hid (macOk ⟨nm, lits, rules⟩ = false) := by
      unfold Hid; rw [HE.out, decide_eq_false hr10]; simp
    have hin : (decide ((1 : Int) ≤ (rules.length : Int)) && decide ((rules.length : Int) ≤ 10)) = false := by
      rw [← Bool.decide_and, decide_eq_false]; omega
    rw [hin]
    go_wp2
    go_ret
    exact ⟨by rw [HN.out]; rfl, hT2⟩
  have hr10 : 1 ≤ rules.length ∧ rules.length ≤ 10 := Decidable.not_not.1 hr10
  have hin : (decide ((1 : Int) ≤ (rules.length : Int)) && decide ((rules.length : Int) ≤ 10)) = true := by
    rw [← Bool.decide_and, decide_eq_true]; omega
  rw [hin]
  have HE2 : Hid (macOk ⟨nm, lits, rules⟩ = (lits.all (fun s => symOk s.data.toList) && rules.all ruleOk)) := by
    unfold Hid
    rw [HE.out, ← HQ1.out, ← HQ2.out, decide_eq_true hr10, decide_eq_true (show lits.length ≤ 10 by omega)]
    simp
  have hrl := hr10.2
  clear hr10 hin
  go_wp2_with fail
  go_loopg [36] lits.length (fun gg i wr => ∃ k : Nat, gg = lits.length - k ∧ k ≤ lits.length ∧ i = .int .i64 (k : Int) ∧ Hid (lits.all (fun s => symOk s.data.toList) = (lits.drop k).all (fun s => symOk s.data.toList)) ∧ Below (w.heap.size + 1) (w.alloc (.cells #[.string nm, slR b lits, slR c rules] 26)) wr)
  case atStart => exact ⟨0, rfl, by omega, by go_num, rfl, hB2'⟩
  case round =>
    obtain ⟨k, rfl, hk, rfl, HL, hW⟩ := hrel
    obtain ⟨⟨k0, k1, k2⟩, hTr, hsr⟩ := HF.out wr hW
    by_cases hlt : (k : Int) < (lits.length : Int)
    · have hk' : k < lits.length := by omega
      have hcell : wr.cell? ⟨b, k, none⟩ = some (.string (lits.getD k default)) := by
        have := ((HM.out.1.below hTr lb)).cell stringL_len k 0 hk' (by decide)
        simpa [stringL] using this
      have hall := all_take (fun s => symOk s.data.toList) lits k hk' HL.out
      have hss := HS.out.1 k hk'
      obtain ⟨t, ht⟩ : ∃ t, t = lits.getD k default := ⟨_, rfl⟩
      rw [← ht] at hcell hall hss
      have HALL := hideT' hall
      have HC4 := hideT' (l3Symbol_any t wr (by unfold maxLen; omega))
      clear hall ht k0 k1 k2 g0 g1 g2
      go_wp2_with fail
      refine HC4.out.mono ?_
      rintro e w4 ⟨rfl, hB4⟩
      have hW4 := hW.trans (hB4.mono hsr)
      obtain ⟨q, hq⟩ : ∃ q, q = symOk t.data.toList := ⟨_, rfl⟩
      rw [← hq]
      have HQ := hideT' hq
      clear hq hB4
      cases q with
      | false =>
        have HN : Hid (macOk ⟨nm, lits, rules⟩ = false) := by unfold Hid; rw [HE2.out, HALL.out, ← HQ.out]; rfl
        have HT4 := hideT' (HF.out w4 hW4).2.1
        go_wp2
        go_ret
        exact ⟨by rw [HN.out]; rfl, HT4.out⟩
      | true =>
        have HL2 : Hid (lits.all (fun s => symOk s.data.toList) = (lits.drop (k + 1)).all (fun s => symOk s.data.toList)) := by unfold Hid; rw [HALL.out, ← HQ.out]; rfl
        go_wp2
        go_roundg (lits.length - (k + 1))
        case measure => omega
        case rel => exact ⟨k + 1, rfl, by omega, by go_num, HL2, hW4⟩
    · have HE3 : Hid (macOk ⟨nm, lits, rules⟩ = rules.all ruleOk) := by
        unfold Hid
        rw [HE2.out, HL.out, List.drop_eq_nil_of_le (by omega)]
        simp
      have hWl := hW
      clear hT2 hs2 g0 g1 g2
      go_wp2_with fail
      go_loopg [47] rules.length (fun gg i wr => ∃ k : Nat, gg = rules.length - k ∧ k ≤ rules.length ∧ i = .int .i64 (k : Int) ∧ Hid (rules.all ruleOk = (rules.drop k).all ruleOk) ∧ Below (w.heap.size + 1) (w.alloc (.cells #[.string nm, slR b lits, slR c rules] 26)) wr)
      case atStart => exact ⟨0, rfl, by omega, by go_num, rfl, hWl⟩
      case round =>
        clear hWl hW hTr hsr k0 k1 k2
        obtain ⟨j, rfl, hj, rfl, HL, hW⟩ := hrel
        obtain ⟨⟨k0, k1, k2⟩, hTr, hsr⟩ := HF.out wr hW
        by_cases hltj : (j : Int) < (rules.length : Int)
        · have hj' : j < rules.length := by omega
          have hrc := HM.out.2.below hTr lc
          have hc0 : wr.cell? ⟨c, j * 2, none⟩ = some (.string (rules.getD j default).1) := by
            have := hrc.cell ruleL_len j 0 hj' (by decide)
            simpa [ruleL] using this
          have hc1 : wr.cell? ⟨c, j * 2 + 1, none⟩ = some (.string (rules.getD j default).2) := by
            have := hrc.cell ruleL_len j 1 hj' (by decide)
            simpa [ruleL] using this
          have hall := all_take ruleOk rules j hj' HL.out
          have hss := HS.out.2 j hj'
          obtain ⟨⟨p, t⟩, hpt⟩ : ∃ pt, pt = rules.getD j default := ⟨_, rfl⟩
          rw [← hpt] at hc0 hc1 hall hss
          simp only at hc0 hc1 hss
          have hWn := hW.alloc (by simpa using hsr) (.cells #[.string p, .string t] 32)
          have HALL := hideT' hall
          have HC5 := hideT' (l4One_any p (wr.alloc (.cells #[.string p, .string t] 32)) (by unfold maxLen; omega))
          have hrn := RowAt.new wr 32 #[.string p, .string t]
          have HRN := hideT' hrn
          clear hall hpt k0 k1 k2 hrc hrn
          go_wp2_with fail
          refine HC5.out.mono ?_
          intro e w5 hA5
          obtain ⟨kp, tp, op, np, cp, rfl, hkp, hB5⟩ := hA5.form
          have hs5 := hB5.size
          simp only [World.size_alloc] at hs5
          have hW5 := hWn.trans (hB5.mono (by simp; omega))
          have hrr : RowAt w5 wr.heap.size 32 #[.string p, .string t] := RowAt.below HRN.out hB5 (by simp)
          have t1 : (w5.alloc (.cells #[.int .i64 kp, .string tp, .slice op np cp] 80)).cell? ⟨wr.heap.size, 1, none⟩ = some (.string t) := by rw [cell_of_row _ _ _ _ _ _ (RowAt.old hrr _)]; rfl
          have hW5n := hW5.alloc (by omega) (.cells #[.int .i64 kp, .string tp, .slice op np cp] 80)
          have HC6 := hideT' (l4One_any t (w5.alloc (.cells #[.int .i64 kp, .string tp, .slice op np cp] 80)) (by unfold maxLen; omega))
          have hn5 := RowAt.new w5 80 #[.int .i64 kp, .string tp, .slice op np cp]
          have HN5 := hideT' hn5
          obtain ⟨b1, hb1⟩ : ∃ b1, b1 = (oneT p).isSome := ⟨_, rfl⟩
          rw [← hb1]
          have HB1 := hideT' hb1
          have HKP := hideT' hkp
          clear hb1 hA5 hB5 hrr hn5 hc0 hc1 hkp
          go_wp2_with fail
          refine HC6.out.mono ?_
          intro e w6 hA6
          obtain ⟨kt, tt, ot, nt, ct, rfl, _, hB6⟩ := hA6.form
          have hs6 := hB6.size
          simp only [World.size_alloc] at hs6
          have hW6 := hW5n.trans (hB6.mono (by simp; omega))
          have hW6n := hW6.alloc (by have := hW6.size; omega) (.cells #[.int .i64 kt, .string tt, .slice ot nt ct] 80)
          have u0 : (w6.alloc (.cells #[.int .i64 kt, .string tt, .slice ot nt ct] 80)).cell? ⟨w5.heap.size, 0, none⟩ = some (.int .i64 kp) := by rw [cell_of_row _ _ _ _ _ _ (RowAt.old (RowAt.below HN5.out hB6 (by simp)) _)]; rfl
          obtain ⟨b2, hb2⟩ : ∃ b2, b2 = (oneT t).isSome := ⟨_, rfl⟩
          rw [← hb2]
          have HB2 := hideT' hb2
          have HT6 := hideT' (HF.out _ hW6n).2.1
          clear hb2 hA6 hB6 t1
          have HRO : Hid (ruleOk (p, t) = ((match oneT p with | some A => decide (A.k = 5) | none => false) && (oneT t).isSome)) := rfl
          cases b1 with
          | false =>
            have HN : Hid (macOk ⟨nm, lits, rules⟩ = false) := by
              unfold Hid
              rw [HE3.out, HALL.out, HRO.out]
              cases h : oneT p with
              | none => rfl
              | some A => have := HB1.out; rw [h] at this; cases this
            go_wp2
            go_ret
            exact ⟨by rw [HN.out]; rfl, HT6.out⟩
          | true =>
            cases b2 with
            | false =>
              have HN : Hid (macOk ⟨nm, lits, rules⟩ = false) := by
                unfold Hid
                rw [HE3.out, HALL.out, HRO.out, ← HB2.out]
                simp
              go_wp2
              go_ret
              exact ⟨by rw [HN.out]; rfl, HT6.out⟩
            | true =>
              by_cases hk5 : kp = 5
              · have hkb : (kp != 5) = false := by simp [hk5]
                have HL2 : Hid (rules.all ruleOk = (rules.drop (j + 1)).all ruleOk) := by
                  unfold Hid
                  rw [HALL.out, HRO.out, ← HB2.out]
                  cases h : oneT p with
                  | none => have := HB1.out; rw [h] at this; cases this
                  | some A =>
                    have hk := HKP.out A h
                    simp [← hk, hk5]
                clear hk5
                go_wp2
                go_roundg (rules.length - (j + 1))
                case measure => omega
                case rel => exact ⟨j + 1, rfl, by omega, by go_num, HL2, hW6n⟩
              · have hkb : (kp != 5) = true := by simp [hk5]
                have HN : Hid (macOk ⟨nm, lits, rules⟩ = false) := by
                  unfold Hid
                  rw [HE3.out, HALL.out, HRO.out]
                  cases h : oneT p with
                  | none => rfl
                  | some A =>
                    have hk := HKP.out A h
                    simp [← hk, hk5]
                clear hk5
                go_wp2
                go_ret
                exact ⟨by rw [HN.out]; rfl, HT6.out⟩
        · have HT : Hid (macOk ⟨nm, lits, rules⟩ = true) := by
            unfold Hid
            rw [HE3.out, HL.out, List.drop_eq_nil_of_le (by omega)]
            rfl
          go_wp2
          go_ret
          exact ⟨by rw [HT.out]; rfl, hTr⟩
end Go.Proofs.YtehjejjkfeljmaaGreatDoor

/-
  What addRule of impl answers.
-/
namespace Go.Proofs.YtehjejjkfeljmaaGreatDoor
open Go.RowKit
set_option linter.unusedVariables false

theorem info_rf : (Tryz.prog.info? 117).map (fun i => (i.zero, i.size, i.bytes)) = some (some (.agg #[.bool false, .slice none 0 0, .int .i64 0, .string ⟨#[]⟩, .slice none 0 0]), 5, 80) := by kernel_rfl
theorem zero_rf : (∀ w, (zeroValue 117).run Tryz.prog w = .ok (.agg #[.bool false, .slice none 0 0, .int .i64 0, .string ⟨#[]⟩, .slice none 0 0]) w) ∧ (Tryz.prog.info? 117).map (·.size) = some 5 := zero_of_info (by kernel_rfl)
theorem size_slrf : (Tryz.prog.info? 66).map (·.size) = some 1 := by kernel_rfl
theorem size_slf : (Tryz.prog.info? 71).map (·.size) = some 1 := by kernel_rfl
theorem size_bool : (Tryz.prog.info? 4).map (·.size) = some 1 := by kernel_rfl
theorem own_ge' {w : World} {B n s : Nat} {T : TypeId} {v : Value} {xs : List Value} (h : w.ownsRow B T s v n xs) {k : Nat} (hk : v.ownBlock = some k) : B ≤ k := by
  rcases h.2 with ⟨rfl, _⟩ | ⟨g, cap, cur, rfl, hg, _⟩
  · simp [Value.ownBlock] at hk
  · simp [Value.ownBlock] at hk; omega
theorem own_lt' {w : World} {B n s : Nat} {T : TypeId} {v : Value} {xs : List Value} (h : w.ownsRow B T s v n xs) {k : Nat} (hk : v.ownBlock = some k) : k < w.heap.size := by
  rcases h.2 with ⟨rfl, _⟩ | ⟨g, cap, cur, rfl, hg, h3, _⟩
  · simp [Value.ownBlock] at hk
  · simp [Value.ownBlock] at hk
    subst hk
    exact (Array.getElem?_eq_some_iff.1 h3).1
theorem own_form' {w : World} {B n s : Nat} {T : TypeId} {v : Value} {xs : List Value} (h : w.ownsRow B T s v n xs) : ∃ o cap, v = .slice o n cap := by
  rcases h.2 with ⟨rfl, rfl⟩ | ⟨g, cap, cur, rfl, _⟩
  · exact ⟨none, 0, rfl⟩
  · exact ⟨_, _, rfl⟩
theorem own_grown' {w w' : World} {B n s k : Nat} {T : TypeId} {v : Value} {xs : List Value} (h : w.ownsRow B T s v n xs) (hg : w.grownBy w' (some k)) (hk : some k ≠ v.ownBlock) : w'.ownsRow B T s v n xs :=
  own_heap h (fun g e => hg.block g (own_lt' h e) (fun e' => hk (by rw [← e', e])))
theorem own_below' {w w' : World} {B C n s : Nat} {T : TypeId} {v : Value} {xs : List Value} (h : w.ownsRow B T s v n xs) (hB : Below C w w') (hC : w.heap.size ≤ C) : w'.ownsRow B T s v n xs :=
  own_heap h (fun g e => hB.block g (Nat.lt_of_lt_of_le (own_lt' h e) hC))
theorem rf_cells (w : World) (cs : Array Value) : ∀ j u, cs.toList[j]? = some u → (w.alloc (.cells cs 117)).cell? ((⟨w.heap.size, 0, none⟩ : Addr).add j) = some u := fun j u h => by
  rw [addr_mid, cell_of_row _ w.heap.size _ cs 117 (0, 0) (heap_alloc_new _ _)]
  simpa using h
theorem run_load_rf {o : Oper} {a : Act} {w : World} (x : Operand) (ho : o.op = .load 117 x) (b : Nat) (hx : a.eval x = .pointer (some ⟨b, 0, none⟩)) (cs : Array Value) (h5 : cs.size = 5) (hN : RowAt w b 117 cs) :
    (execOp a.eval o).run Tryz.prog w = .ok (.value (.agg cs)) w := by
  have h := run_loadVar_row (P := Tryz.prog) w b 117 117 cs (0, 0) _ hN Tryz.underlying117 rfl (by rw [zero_rf.2, h5])
  unfold execOp
  simp only [ho, hx, Instr.loadAt, Instr.sureAddr, Sem.run_bind, Sem.run_pure, Result.andThen_ok, h]

/-- A macro that is read, with some rules. -/
def MfRow (w : World) (M : Nat) (zl : Value) (n : Nat) : Prop := ∃ vr xs, RowAt w M 68 #[zl, vr] ∧ w.ownsRow (M + 1) 117 5 vr n xs
theorem MfRow.below {w w' : World} {M n : Nat} {zl : Value} (h : MfRow w M zl n) (hB : Below w.heap.size w w') : MfRow w' M zl n := by
  obtain ⟨vr, xs, h1, h2⟩ := h
  exact ⟨vr, xs, RowAt.below h1 hB (RowAt.lt h1), own_below' h2 hB (Nat.le_refl _)⟩

theorem OneAns.parts {T : TypeId} {O : Option Tr} {w w' : World} {e : Ending} (h : OneAns T O w e w') : ∃ (k : Int) (t : ByteArray) (o : Option Addr) (c : Nat) (ks : List Tr), e = .returned (.tuple #[.agg #[.int .i64 k, .string t, .slice o ks.length c], .bool O.isSome]) ∧ (O.isSome = true → O = some (.mk k t ks)) ∧ RowRd w' T (.slice o ks.length c) ks ∧ 1 + szs ks ≤ 300 ∧ Below w.heap.size w w' := by
  unfold OneAns at h
  cases O with
  | none =>
    refine ⟨0, ⟨#[]⟩, none, 0, [], h.1, (fun hA => by cases hA), ⟨[], .inl ⟨rfl, rfl⟩, by rw [trsC]⟩, by rw [szs]; omega, h.2⟩
  | some A =>
    obtain ⟨k, t, ks⟩ := A
    obtain ⟨z, h1, h2, h3, h4⟩ := h
    obtain ⟨o, c, rfl⟩ := h2.len
    exact ⟨k, t, o, c, ks, h1, fun _ => rfl, h2, h3, h4⟩

/-- What is left behind a rule that was added, or was not. -/
def RuleAns (w : World) (M : Nat) (zl : Value) (n : Nat) (b : Bool) (e : Ending) (w' : World) : Prop := e = .returned (.bool b) ∧ (b = true → MfRow w' M zl (n + 1)) ∧ Below M w w'

set_option maxHeartbeats 16000000 in
set_option maxRecDepth 100000 in
theorem addRule_any (M : Nat) (zl : Value) (lits : List ByteArray) (p t : ByteArray) (n T0 : Nat) (w : World) (hMf : MfRow w M zl n) (hl : StrRow w zl lits) (h40 : lits.length < 2 ^ 40) (hp : p.size ≤ maxLen) (ht : t.size ≤ maxLen) (hT : Tab T0 w) (hTM : T0 ≤ M) (hn : n ≤ 10) :
    Calls Tryz.prog 67 #[.pointer (some ⟨M, 0, none⟩), .agg #[.string p, .string t]] w fun e w' => RuleAns w M zl n (ruleOk (p, t)) e w' := by
  have hzf := zero_fm.1
  have hzr := zero_rf.1
  have hmm := @run_makeMap Tryz.prog
  obtain ⟨i0, hi, hzz0, hzz1, hzz2⟩ := info_parts info_rf
  have HMf := hideT' hMf
  have HL := hideT' hl
  have HT := hideT' hT
  have hMl : M < w.heap.size := by obtain ⟨_, _, h1, _⟩ := hMf; exact RowAt.lt h1
  have hB0 : Below w.heap.size w (w.alloc (.cells #[.string p, .string t] 32)) := (Below.refl _ _).alloc (Nat.le_refl _) _
  have hR0 := RowAt.new w 32 #[.string p, .string t]
  have HR0 := hideT' hR0
  have HTab : Hid (∀ w', Below M w w' → w.heap.size ≤ w'.heap.size → Tab w'.heap.size w') := fun w' hB hs => (HT.out.on (hB.mono hTM)).up (by omega)
  have HC1 := hideT' (readForm_any p (w.alloc (.cells #[.string p, .string t] 32)) hp (HTab.out _ (hB0.mono (by omega)) (by simp)))
  have HRO : Hid (ruleOk (p, t) = ((match oneT p with | some A => decide (A.k = 5) | none => false) && (oneT t).isSome)) := rfl
  have HTS := hideT' ht
  clear hMf hl hT hR0 hp ht
  go_enter Tryz.func67, Tryz.ntmps67
  go_wp2_with fail
  refine HC1.out.mono ?_
  intro e w1 hA1
  obtain ⟨kp, tp, op, cp, kps, rfl, hOp, hRp, hZp, hB1⟩ := hA1.parts
  obtain ⟨np, hnp⟩ : ∃ np, np = kps.length := ⟨_, rfl⟩
  rw [← hnp] at hRp ⊢
  have hs1 := hB1.size
  simp only [World.size_alloc] at hs1
  have hBw1 : Below w.heap.size w w1 := hB0.trans (hB1.mono (by simp))
  have hBW1 : Below w.heap.size w (w1.alloc (.cells #[.int .i64 kp, .string tp, .slice op np cp] 73)) := hBw1.alloc (by omega) _
  have r0 : RowAt (w1.alloc (.cells #[.int .i64 kp, .string tp, .slice op np cp] 73)) w.heap.size 32 #[.string p, .string t] := RowAt.old (RowAt.below HR0.out hB1 (by simp)) _
  have c01 : (w1.alloc (.cells #[.int .i64 kp, .string tp, .slice op np cp] 73)).cell? ⟨w.heap.size, 1, none⟩ = some (.string t) := by rw [cell_of_row _ _ _ _ _ _ r0]; rfl
  have rp := RowAt.new w1 73 #[.int .i64 kp, .string tp, .slice op np cp]
  have HRP := hideT' (And.intro rp (hRp.below ((Below.refl _ _).alloc (Nat.le_refl _) (.cells #[.int .i64 kp, .string tp, .slice op np cp] 73))))
  obtain ⟨b1, hb1⟩ : ∃ b1, b1 = (oneT p).isSome := ⟨_, rfl⟩
  rw [← hb1] at hOp ⊢
  have HB1 := hideT' hb1
  have HOP := hideT' hOp
  have HZP := hideT' (And.intro hZp hnp)
  have HBW1 := hideT' hBW1
  clear hb1 hOp hA1 hB1 hRp r0 rp hZp hnp hBW1 hBw1
  cases b1 with
  | false =>
    have HN : Hid (ruleOk (p, t) = false) := by
      unfold Hid
      rw [HRO.out]
      cases h : oneT p with
      | none => rfl
      | some A => have := HB1.out; rw [h] at this; cases this
    go_wp2
    go_ret
    exact ⟨by rw [HN.out]; rfl, (fun h => by rw [HN.out] at h; cases h), HBW1.out.mono (by omega)⟩
  | true =>
  have HO1 : Hid (oneT p = some (.mk kp tp kps)) := HOP.out rfl
  by_cases hk5 : ¬ kp = 5
  · have hkb : (kp != 5) = true := by simp [hk5]
    have HN : Hid (ruleOk (p, t) = false) := by
      unfold Hid
      rw [HRO.out, HO1.out]
      show (decide (kp = 5) && _) = false
      rw [decide_eq_false hk5]; rfl
    clear hk5
    go_wp2
    go_ret
    exact ⟨by rw [HN.out]; rfl, (fun h => by rw [HN.out] at h; cases h), HBW1.out.mono (by omega)⟩
  have hk5 : kp = 5 := Decidable.not_not.1 hk5
  have hkb : (kp != 5) = false := by simp [hk5]
  have HRO2 : Hid (ruleOk (p, t) = (oneT t).isSome) := by
    unfold Hid
    rw [HRO.out, HO1.out]
    show (decide (kp = 5) && _) = _
    rw [decide_eq_true hk5]; rfl
  clear hk5
  have HC2 := hideT' (readForm_any t (w1.alloc (.cells #[.int .i64 kp, .string tp, .slice op np cp] 73)) HTS.out (HTab.out _ (HBW1.out.mono (by omega)) (by simp; omega)))
  go_wp2_with fail
  refine HC2.out.mono ?_
  intro e w2 hA2
  obtain ⟨kt, tt, ot, ct, kts, rfl, hOt, hRt, hZt, hB2⟩ := hA2.parts
  obtain ⟨nt, hnt⟩ : ∃ nt, nt = kts.length := ⟨_, rfl⟩
  rw [← hnt] at hRt ⊢
  have hs2 := hB2.size
  simp only [World.size_alloc] at hs2
  have hBw2 : Below w.heap.size w w2 := HBW1.out.trans (hB2.mono (by simp; omega))
  have hBW2 : Below w.heap.size w (w2.alloc (.cells #[.int .i64 kt, .string tt, .slice ot nt ct] 73)) := hBw2.alloc (by omega) _
  have rp2 := RowAt.old (RowAt.below HRP.out.1 hB2 (by simp)) (.cells #[.int .i64 kt, .string tt, .slice ot nt ct] 73)
  have HRP2 := hideT' (And.intro rp2 ((HRP.out.2.below hB2).below ((Below.refl _ _).alloc (Nat.le_refl _) (.cells #[.int .i64 kt, .string tt, .slice ot nt ct] 73))))
  obtain ⟨b2, hb2⟩ : ∃ b2, b2 = (oneT t).isSome := ⟨_, rfl⟩
  rw [← hb2]
  have HB2 := hideT' hb2
  have HBW2 := hideT' hBW2
  clear hb2 hOt hA2 hB2 hRt rp2 hZt hnt hBW2 hBw2 c01
  cases b2 with
  | false =>
    have HN : Hid (ruleOk (p, t) = false) := by unfold Hid; rw [HRO2.out, ← HB2.out]
    go_wp2
    go_ret
    exact ⟨by rw [HN.out]; rfl, (fun h => by rw [HN.out] at h; cases h), HBW2.out.mono (by omega)⟩
  | true =>
  have HY : Hid (ruleOk (p, t) = true) := by unfold Hid; rw [HRO2.out, ← HB2.out]
  have q2 : ((w2.alloc (.cells #[.int .i64 kt, .string tt, .slice ot nt ct] 73)).alloc (.cells #[.bool false, .slice none 0 0, .int .i64 kt, .string tt, .slice ot nt ct] 117)).cell? ⟨w1.heap.size, 2, none⟩ = some (.slice op np cp) := by
    rw [cell_of_row _ _ _ _ _ _ (RowAt.old HRP2.out.1 _)]; rfl
  obtain ⟨vr, xs, hmf, how⟩ := HMf.out
  obtain ⟨ov, cv, rfl⟩ := own_form' how
  by_cases hp0 : np = 0
  · subst hp0
    have hBX : Below w.heap.size w ((w2.alloc (.cells #[.int .i64 kt, .string tt, .slice ot nt ct] 73)).alloc (.cells #[.bool false, .slice none 0 0, .int .i64 kt, .string tt, .slice ot nt ct] 117)) := HBW2.out.alloc (by simp; omega) _
    have hmX := RowAt.below hmf hBX hMl
    have hoX := own_below' how hBX (Nat.le_refl _)
    have hrX := RowAt.new (w2.alloc (.cells #[.int .i64 kt, .string tt, .slice ot nt ct] 73)) 117 #[.bool false, .slice none 0 0, .int .i64 kt, .string tt, .slice ot nt ct]
    rw [World.size_alloc] at hrX
    have hoN : ∀ b, Value.ownBlock (.slice ov n cv) = some b → b < w.heap.size := fun b hb => own_lt' how hb
    go_wp2_with fail
    refine late_begin [10] (fun w' => RowAt w' M 68 #[zl, .slice ov n cv] ∧ RowAt w' (w2.heap.size + 1) 117 #[.bool false, .slice none 0 0, .int .i64 kt, .string tt, .slice ot nt ct]) (by kernel_rfl) ?_
    have hS : RowAt ((w2.alloc (.cells #[.int .i64 kt, .string tt, .slice ot nt ct] 73)).alloc (.cells #[.bool false, .slice none 0 0, .int .i64 kt, .string tt, .slice ot nt ct] 117)).drew M 68 #[zl, .slice ov n cv] ∧ RowAt ((w2.alloc (.cells #[.int .i64 kt, .string tt, .slice ot nt ct] 73)).alloc (.cells #[.bool false, .slice none 0 0, .int .i64 kt, .string tt, .slice ot nt ct] 117)).drew (w2.heap.size + 1) 117 #[.bool false, .slice none 0 0, .int .i64 kt, .string tt, .slice ot nt ct] := ⟨hmX, hrX⟩
    refine late_val 0 (some 46) rfl rfl (by kernel_rfl) (by kernel_rfl) (by kernel_rfl) [8, 9, 10] (by kernel_rfl) noPanic_put rfl (.pointer (some ⟨M, 0, none⟩)) (fun _ _ => by go_simp) hS ?_
    simp only [Act.put, List.setIfInBounds_toArray, List.set_cons_zero, List.set_cons_succ]
    refine late_val 1 (some 47) rfl rfl (by kernel_rfl) (by kernel_rfl) (by kernel_rfl) [2, 3, 4, 7, 10] (by kernel_rfl) noPanic_put rfl (.pointer (some ⟨M, 0, none⟩)) (fun _ _ => by go_simp) hS ?_
    simp only [Act.put, List.setIfInBounds_toArray, List.set_cons_zero, List.set_cons_succ]
    refine late_val 2 (some 48) rfl rfl (by kernel_rfl) (by kernel_rfl) (by kernel_rfl) [3, 4, 7, 10] (by kernel_rfl) noPanic_put rfl (.pointer (some ⟨M, 0, none⟩)) (fun _ _ => by go_simp) hS ?_
    simp only [Act.put, List.setIfInBounds_toArray, List.set_cons_zero, List.set_cons_succ]
    refine late_val 3 (some 49) rfl rfl (by kernel_rfl) (by kernel_rfl) (by kernel_rfl) [4, 7, 10] (by kernel_rfl) noPanic_put rfl (.pointer (some ⟨M, 1, none⟩)) (fun _ _ => by go_simp) hS ?_
    simp only [Act.put, List.setIfInBounds_toArray, List.set_cons_zero, List.set_cons_succ]
    refine late_val 4 (some 50) rfl rfl (by kernel_rfl) (by kernel_rfl) (by kernel_rfl) [7, 10] (by kernel_rfl) noPanic_put rfl (.slice ov n cv) (fun w' h => by have c : w'.cell? ⟨M, 1, none⟩ = some (.slice ov n cv) := (by rw [cell_of_row w' _ _ _ _ _ h.1]; rfl); go_simp) hS ?_
    simp only [Act.put, List.setIfInBounds_toArray, List.set_cons_zero, List.set_cons_succ]
    refine late_val 5 (some 51) rfl rfl (by kernel_rfl) (by kernel_rfl) (by kernel_rfl) [6, 7, 10] (by kernel_rfl) noPanic_put rfl (.agg #[.bool false, .slice none 0 0, .int .i64 kt, .string tt, .slice ot nt ct]) (fun w' h => run_load_rf (.tmp 8) rfl (w2.heap.size + 1) rfl _ rfl h.2) hS ?_
    simp only [Act.put, List.setIfInBounds_toArray, List.set_cons_zero, List.set_cons_succ]
    have hsD : ((w2.alloc (.cells #[.int .i64 kt, .string tt, .slice ot nt ct] 73)).alloc (.cells #[.bool false, .slice none 0 0, .int .i64 kt, .string tt, .slice ot nt ct] 117)).drew.heap.size = ((w2.alloc (.cells #[.int .i64 kt, .string tt, .slice ot nt ct] 73)).alloc (.cells #[.bool false, .slice none 0 0, .int .i64 kt, .string tt, .slice ot nt ct] 117)).heap.size := rfl
    try simp only [World.size_alloc] at hsD
    have hS2 : RowAt (((w2.alloc (.cells #[.int .i64 kt, .string tt, .slice ot nt ct] 73)).alloc (.cells #[.bool false, .slice none 0 0, .int .i64 kt, .string tt, .slice ot nt ct] 117)).drew.alloc (.cells #[.bool false, .slice none 0 0, .int .i64 kt, .string tt, .slice ot nt ct] 117)) M 68 #[zl, .slice ov n cv] := RowAt.old hS.1 _
    refine late_ready 6 (some 52) (by kernel_rfl) rfl rfl rfl (.slice (some ⟨((w2.alloc (.cells #[.int .i64 kt, .string tt, .slice ot nt ct] 73)).alloc (.cells #[.bool false, .slice none 0 0, .int .i64 kt, .string tt, .slice ot nt ct] 117)).heap.size, 0, none⟩) 1 1) (((w2.alloc (.cells #[.int .i64 kt, .string tt, .slice ot nt ct] 73)).alloc (.cells #[.bool false, .slice none 0 0, .int .i64 kt, .string tt, .slice ot nt ct] 117)).drew.alloc (.cells #[.bool false, .slice none 0 0, .int .i64 kt, .string tt, .slice ot nt ct] 117)) (by go_simp) (.inr ⟨hS2, RowAt.old hS.2 _⟩) ?_
    simp only [Act.put, List.setIfInBounds_toArray, List.set_cons_zero, List.set_cons_succ]
    refine late_one 7 (by kernel_rfl) rfl rfl fun K hK => ?_
    refine append_own3_wp _ _ _ 66 rfl (M + 1) 117 i0 (.agg #[.bool false, .slice none 0 0, .int .i64 0, .string ⟨#[]⟩, .slice none 0 0]) 5 80 Tryz.underlying66 hi hzz0 hzz1 hzz2 rfl (by decide) (.slice ov n cv) n xs rfl (World.ownsRow.alloc (w := ((w2.alloc (.cells #[.int .i64 kt, .string tt, .slice ot nt ct] 73)).alloc (.cells #[.bool false, .slice none 0 0, .int .i64 kt, .string tt, .slice ot nt ct] 117)).drew) hoX _) ⟨((w2.alloc (.cells #[.int .i64 kt, .string tt, .slice ot nt ct] 73)).alloc (.cells #[.bool false, .slice none 0 0, .int .i64 kt, .string tt, .slice ot nt ct] 117)).heap.size, 0, none⟩ 1 1 (#[.bool false, .slice none 0 0, .int .i64 kt, .string tt, .slice ot nt ct]).toList rfl rfl (rf_cells ((w2.alloc (.cells #[.int .i64 kt, .string tt, .slice ot nt ct] 73)).alloc (.cells #[.bool false, .slice none 0 0, .int .i64 kt, .string tt, .slice ot nt ct] 117)).drew #[.bool false, .slice none 0 0, .int .i64 kt, .string tt, .slice ot nt ct]) (by intro u hu; simp at hu; rcases hu with rfl | rfl | rfl | rfl | rfl <;> rfl) (by omega) (by unfold maxLen; omega) (by omega) (by simp; omega) ?_
    intro v6 w6 hv6 hg6 hb6
    have hs6 := hg6.size
    simp only [World.size_alloc] at hs6 hb6
    have hMne : some M ≠ Value.ownBlock (.slice ov n cv) := fun e => by have := own_ge' (hoX) e.symm; omega
    have hS6 : RowAt w6 M 68 #[zl, .slice ov n cv] := hS2.grown hg6 hMne
    have hR6 : RowAt w6 (w2.heap.size + 1) 117 #[.bool false, .slice none 0 0, .int .i64 kt, .string tt, .slice ot nt ct] := (RowAt.old hS.2 _).grown hg6 (fun e => by have := hoN _ e.symm; omega)
    refine hK.out _ _ (.inr ⟨hS6, hR6⟩) ?_
    simp only [Act.put, List.setIfInBounds_toArray]
    obtain ⟨o6, c6, rfl⟩ := own_form' hv6
    refine late_val 8 (some 54) rfl rfl (by kernel_rfl) (by kernel_rfl) (by kernel_rfl) [9, 10] (by kernel_rfl) noPanic_put rfl (.pointer (some ⟨M, 0, none⟩)) (fun _ _ => by go_simp) ⟨hS6, hR6⟩ ?_
    simp only [Act.put]
    refine late_val 9 (some 55) rfl rfl (by kernel_rfl) (by kernel_rfl) (by kernel_rfl) [10] (by kernel_rfl) noPanic_put rfl (.pointer (some ⟨M, 1, none⟩)) (fun _ _ => by go_simp) ⟨hS6, hR6⟩ ?_
    simp only [Act.put]
    refine late_one 10 (by kernel_rfl) rfl rfl fun K8 hK8 => ?_
    refine store_at_wp 66 _ _ rfl rfl M 1 (.slice o6 (n + 1) c6) rfl rfl size_slrf rfl 68 #[zl, .slice ov n cv] hS6 (show 1 < 2 by omega) ?_
    intro w7 hR7 hg7 hs7
    refine hK8.out _ _ (.inl ⟨10, by simp, rfl⟩) ?_
    refine late_done (by kernel_rfl) ?_ _
    refine NoPanic.normal ?_
    have HMF7 : Hid (MfRow w7 M zl (n + 1)) := ⟨.slice o6 (n + 1) c6, _, hR7, own_grown' hv6 hg7 (fun e => by have := own_ge' hv6 e.symm; omega)⟩
    have HB7 := hideT' (((((hBX.mono (by omega) : Below M w _)).drew.alloc (by simp; omega) _).grown hg6 (by simp; omega) (fun b hb => by have := own_ge' (hoX) hb; omega)).grown hg7 (by omega) (by intro k hk; cases hk; omega))
    clear hS hS2 hS6 hR6 hv6 hg6 hb6 hs6 hR7 hg7 hs7 hMne
    go_wp2
    go_ret
    exact ⟨by rw [HY.out]; rfl, fun _ => HMF7.out, HB7.out⟩
  · have hpp : (0 : Int) < (np : Int) := by omega
    obtain ⟨zq, hsl, hOq⟩ := (HRP2.out.2.below ((Below.refl _ _).alloc (Nat.le_refl _) (.cells #[.bool false, .slice none 0 0, .int .i64 kt, .string tt, .slice ot nt ct] 117))).rowO.from Tryz.underlying71 zero_fm.2 1 (by have := HZP.out.2; omega)
    obtain ⟨oq, cq, rfl⟩ := hOq.len
    obtain ⟨nq, hnq⟩ : ∃ nq, nq = (kps.drop 1).length := ⟨_, rfl⟩
    rw [← hnq] at hsl hOq
    have hslX : (Instr.sliceAt 71 (.slice op np cp) (some (.int .i64 1)) none none).run Tryz.prog ((w2.alloc (.cells #[.int .i64 kt, .string tt, .slice ot nt ct] 73)).alloc (.cells #[.bool false, .slice none 0 0, .int .i64 kt, .string tt, .slice ot nt ct] 117)) = .ok (.slice oq nq cq) ((w2.alloc (.cells #[.int .i64 kt, .string tt, .slice ot nt ct] 73)).alloc (.cells #[.bool false, .slice none 0 0, .int .i64 kt, .string tt, .slice ot nt ct] 117)) := hsl _
    -- the world ahead of the map
    obtain ⟨V, hV⟩ : ∃ V, V = (w2.alloc (.cells #[.int .i64 kt, .string tt, .slice ot nt ct] 73)).alloc (.cells #[.bool false, .slice oq nq cq, .int .i64 kt, .string tt, .slice ot nt ct] 117) := ⟨_, rfl⟩
    have hVs : V.heap.size = w2.heap.size + 1 + 1 := by rw [hV]; simp
    have hBV : Below w.heap.size w V := by rw [hV]; exact HBW2.out.alloc (by simp; omega) _
    have hmV := RowAt.below hmf hBV hMl
    have hoV := own_below' how hBV (Nat.le_refl _)
    have hlV := HL.out.below hBV
    have hrV : RowAt V (w2.heap.size + 1) 117 #[.bool false, .slice oq nq cq, .int .i64 kt, .string tt, .slice ot nt ct] := by
      have := RowAt.new (w2.alloc (.cells #[.int .i64 kt, .string tt, .slice ot nt ct] 73)) 117 #[.bool false, .slice oq nq cq, .int .i64 kt, .string tt, .slice ot nt ct]
      rw [World.size_alloc] at this
      rw [hV]; exact this
    have hOV : RowO V 73 (.slice oq nq cq) (kps.drop 1) := by
      obtain ⟨zq', hsl', hOq'⟩ := (HRP2.out.2.below ((Below.refl _ _).alloc (Nat.le_refl _) (.cells #[.bool false, .slice oq nq cq, .int .i64 kt, .string tt, .slice ot nt ct] 117))).rowO.from Tryz.underlying71 zero_fm.2 1 (by have := HZP.out.2; omega)
      have e1 := hsl' w
      have e2 := hsl w
      rw [e2] at e1
      injection e1 with e1 _
      rw [← e1] at hOq'
      rw [hV]
      exact hOq'
    have hVl : V.heap.size < (V.alloc (.map #[] 0)).heap.size := by simp
    have HC3 := hideT' (snd_all V M zl (.slice ov n cv) lits hmV hlV h40 (szs (kps.drop 1)) (kps.drop 1) (Nat.le_refl _) (by have := HZP.out.1; have := szs_drop kps 1; omega) (.slice oq nq cq) (V.alloc (.map #[] 0)) false hOV ((Below.refl _ _).alloc (Nat.le_refl _) _) ⟨[], StrMap.made V, fun p hp => by simp at hp⟩)
    have HWE := hideT' hV
    have HVV := hideT' (And.intro hmV (And.intro hoV hrV))
    have HBV := hideT' hBV
    clear hsl hOq hlV hOV hV hmV hoV hrV hBV hnq
    go_wp2_with fail
    rw [← HWE.out]
    try rw [← hVs]
    refine HC3.out.mono ?_
    rintro e w5 ⟨⟨bs, rfl⟩, _, hB5, hs5⟩
    simp only [World.size_alloc] at hs5
    have hr5 := RowAt.below HVV.out.2.2 hB5 (by omega)
    have hm5 := RowAt.below HVV.out.1 hB5 (by omega)
    have ho5 := own_below' HVV.out.2.1 hB5 (Nat.le_refl _)
    have hBX5 := HBV.out.trans (hB5.mono (by omega))
    go_wp2_with (refine store_at rfl 4 _ _ rfl rfl (w2.heap.size + 1) 0 _ rfl rfl size_bool rfl 117 _ hr5 (show 0 < 5 by omega) ?_; intro w6 rw6 hg6w hs6w)
    have hrX : RowAt w6 (w2.heap.size + 1) 117 #[.bool bs, .slice oq nq cq, .int .i64 kt, .string tt, .slice ot nt ct] := rw6
    have hmX := RowAt.grown hm5 hg6w (by intro e; injection e; omega)
    have hoN : ∀ b, Value.ownBlock (.slice ov n cv) = some b → b < w.heap.size := fun b hb => own_lt' how hb
    have hoX := own_grown' ho5 hg6w (fun e => by have := hoN _ e.symm; omega)
    have hBX : Below w.heap.size w w6 := hBX5.grown hg6w (by omega) (by intro k hk; cases hk; omega)
    have hsX6 : w2.heap.size + 1 < w6.heap.size := by omega
    clear rw6 hg6w hr5 hm5 ho5 hBX5 hB5
    go_wp2_with fail
    refine late_begin [10] (fun w' => RowAt w' M 68 #[zl, .slice ov n cv] ∧ RowAt w' (w2.heap.size + 1) 117 #[.bool bs, .slice oq nq cq, .int .i64 kt, .string tt, .slice ot nt ct]) (by kernel_rfl) ?_
    have hS : RowAt (w6).drew M 68 #[zl, .slice ov n cv] ∧ RowAt (w6).drew (w2.heap.size + 1) 117 #[.bool bs, .slice oq nq cq, .int .i64 kt, .string tt, .slice ot nt ct] := ⟨hmX, hrX⟩
    refine late_val 0 (some 46) rfl rfl (by kernel_rfl) (by kernel_rfl) (by kernel_rfl) [8, 9, 10] (by kernel_rfl) noPanic_put rfl (.pointer (some ⟨M, 0, none⟩)) (fun _ _ => by go_simp) hS ?_
    simp only [Act.put, List.setIfInBounds_toArray, List.set_cons_zero, List.set_cons_succ]
    refine late_val 1 (some 47) rfl rfl (by kernel_rfl) (by kernel_rfl) (by kernel_rfl) [2, 3, 4, 7, 10] (by kernel_rfl) noPanic_put rfl (.pointer (some ⟨M, 0, none⟩)) (fun _ _ => by go_simp) hS ?_
    simp only [Act.put, List.setIfInBounds_toArray, List.set_cons_zero, List.set_cons_succ]
    refine late_val 2 (some 48) rfl rfl (by kernel_rfl) (by kernel_rfl) (by kernel_rfl) [3, 4, 7, 10] (by kernel_rfl) noPanic_put rfl (.pointer (some ⟨M, 0, none⟩)) (fun _ _ => by go_simp) hS ?_
    simp only [Act.put, List.setIfInBounds_toArray, List.set_cons_zero, List.set_cons_succ]
    refine late_val 3 (some 49) rfl rfl (by kernel_rfl) (by kernel_rfl) (by kernel_rfl) [4, 7, 10] (by kernel_rfl) noPanic_put rfl (.pointer (some ⟨M, 1, none⟩)) (fun _ _ => by go_simp) hS ?_
    simp only [Act.put, List.setIfInBounds_toArray, List.set_cons_zero, List.set_cons_succ]
    refine late_val 4 (some 50) rfl rfl (by kernel_rfl) (by kernel_rfl) (by kernel_rfl) [7, 10] (by kernel_rfl) noPanic_put rfl (.slice ov n cv) (fun w' h => by have c : w'.cell? ⟨M, 1, none⟩ = some (.slice ov n cv) := (by rw [cell_of_row w' _ _ _ _ _ h.1]; rfl); go_simp) hS ?_
    simp only [Act.put, List.setIfInBounds_toArray, List.set_cons_zero, List.set_cons_succ]
    refine late_val 5 (some 51) rfl rfl (by kernel_rfl) (by kernel_rfl) (by kernel_rfl) [6, 7, 10] (by kernel_rfl) noPanic_put rfl (.agg #[.bool bs, .slice oq nq cq, .int .i64 kt, .string tt, .slice ot nt ct]) (fun w' h => run_load_rf (.tmp 8) rfl (w2.heap.size + 1) rfl _ rfl h.2) hS ?_
    simp only [Act.put, List.setIfInBounds_toArray, List.set_cons_zero, List.set_cons_succ]
    have hsD : (w6).drew.heap.size = (w6).heap.size := rfl
    try simp only [World.size_alloc] at hsD
    have hS2 : RowAt ((w6).drew.alloc (.cells #[.bool bs, .slice oq nq cq, .int .i64 kt, .string tt, .slice ot nt ct] 117)) M 68 #[zl, .slice ov n cv] := RowAt.old hS.1 _
    refine late_ready 6 (some 52) (by kernel_rfl) rfl rfl rfl (.slice (some ⟨(w6).heap.size, 0, none⟩) 1 1) ((w6).drew.alloc (.cells #[.bool bs, .slice oq nq cq, .int .i64 kt, .string tt, .slice ot nt ct] 117)) (by go_simp) (.inr ⟨hS2, RowAt.old hS.2 _⟩) ?_
    simp only [Act.put, List.setIfInBounds_toArray, List.set_cons_zero, List.set_cons_succ]
    refine late_one 7 (by kernel_rfl) rfl rfl fun K hK => ?_
    refine append_own3_wp _ _ _ 66 rfl (M + 1) 117 i0 (.agg #[.bool false, .slice none 0 0, .int .i64 0, .string ⟨#[]⟩, .slice none 0 0]) 5 80 Tryz.underlying66 hi hzz0 hzz1 hzz2 rfl (by decide) (.slice ov n cv) n xs rfl (World.ownsRow.alloc (w := (w6).drew) hoX _) ⟨(w6).heap.size, 0, none⟩ 1 1 (#[.bool bs, .slice oq nq cq, .int .i64 kt, .string tt, .slice ot nt ct]).toList rfl rfl (rf_cells (w6).drew #[.bool bs, .slice oq nq cq, .int .i64 kt, .string tt, .slice ot nt ct]) (by intro u hu; simp at hu; rcases hu with rfl | rfl | rfl | rfl | rfl <;> rfl) (by omega) (by unfold maxLen; omega) (by omega) (by simp; omega) ?_
    intro v6 w6 hv6 hg6 hb6
    have hs6 := hg6.size
    simp only [World.size_alloc] at hs6 hb6
    have hMne : some M ≠ Value.ownBlock (.slice ov n cv) := fun e => by have := own_ge' (hoX) e.symm; omega
    have hS6 : RowAt w6 M 68 #[zl, .slice ov n cv] := hS2.grown hg6 hMne
    have hR6 : RowAt w6 (w2.heap.size + 1) 117 #[.bool bs, .slice oq nq cq, .int .i64 kt, .string tt, .slice ot nt ct] := (RowAt.old hS.2 _).grown hg6 (fun e => by have := hoN _ e.symm; omega)
    refine hK.out _ _ (.inr ⟨hS6, hR6⟩) ?_
    simp only [Act.put, List.setIfInBounds_toArray]
    obtain ⟨o6, c6, rfl⟩ := own_form' hv6
    refine late_val 8 (some 54) rfl rfl (by kernel_rfl) (by kernel_rfl) (by kernel_rfl) [9, 10] (by kernel_rfl) noPanic_put rfl (.pointer (some ⟨M, 0, none⟩)) (fun _ _ => by go_simp) ⟨hS6, hR6⟩ ?_
    simp only [Act.put]
    refine late_val 9 (some 55) rfl rfl (by kernel_rfl) (by kernel_rfl) (by kernel_rfl) [10] (by kernel_rfl) noPanic_put rfl (.pointer (some ⟨M, 1, none⟩)) (fun _ _ => by go_simp) ⟨hS6, hR6⟩ ?_
    simp only [Act.put]
    refine late_one 10 (by kernel_rfl) rfl rfl fun K8 hK8 => ?_
    refine store_at_wp 66 _ _ rfl rfl M 1 (.slice o6 (n + 1) c6) rfl rfl size_slrf rfl 68 #[zl, .slice ov n cv] hS6 (show 1 < 2 by omega) ?_
    intro w7 hR7 hg7 hs7
    refine hK8.out _ _ (.inl ⟨10, by simp, rfl⟩) ?_
    refine late_done (by kernel_rfl) ?_ _
    refine NoPanic.normal ?_
    have HMF7 : Hid (MfRow w7 M zl (n + 1)) := ⟨.slice o6 (n + 1) c6, _, hR7, own_grown' hv6 hg7 (fun e => by have := own_ge' hv6 e.symm; omega)⟩
    have HB7 := hideT' (((((hBX.mono (by omega) : Below M w _)).drew.alloc (by simp; omega) _).grown hg6 (by simp; omega) (fun b hb => by have := own_ge' (hoX) hb; omega)).grown hg7 (by omega) (by intro k hk; cases hk; omega))
    clear hS hS2 hS6 hR6 hv6 hg6 hb6 hs6 hR7 hg7 hs7 hMne
    go_wp2
    go_ret
    exact ⟨by rw [HY.out]; rfl, fun _ => HMF7.out, HB7.out⟩
end Go.Proofs.YtehjejjkfeljmaaGreatDoor

/-
  What readMacro and GoodMacro of impl answer.
-/
namespace Go.Proofs.YtehjejjkfeljmaaGreatDoor
open Go.RowKit
set_option linter.unusedVariables false

/-- Some cells are written whole. -/
theorem store_n {ops : Array Oper} {rest : List Oper} {o : Oper} {a : Act} {w : World} {Q : Exit → Act → World → Prop} (hgd : o.guard = none) (T : TypeId) (x y : Operand) (ho : o.op = .store T x y) (hd : o.dst = none) {n : Nat} (hs3 : (Tryz.prog.info? T).map (·.size) = some n)
    (b : Nat) (cs : Array Value) (h3 : cs.size = n) (hone : cs.all (·.oneCell') = true) (hx : a.eval x = .pointer (some ⟨b, 0, none⟩)) (hy : a.eval y = .agg cs) (c0 : Array Value) (h0 : c0.size = n) (hN : RowAt w b T c0)
    (h : ∀ w', RowAt w' b T cs → w.grownBy w' (some b) → w'.heap.size = w.heap.size → wpList Tryz.prog ops Q rest a w') : wpList Tryz.prog ops Q (o :: rest) a w := by
  refine wpList_store_row hgd T x y ho b cs hx hy T c0 hN (by rw [hs3, h3]) (by rw [h0, h3]) hone ?_
  rw [hd]
  exact h _ (setRow_heap w b _ _ _ _ hN) ⟨rfl, rfl, rfl, by simp, fun k _ hne => setRow_other w b k _ (by intro e; exact hne (by rw [e]))⟩ (by simp)
theorem zero_mf : (∀ w, (zeroValue 68).run Tryz.prog w = .ok (.agg #[.slice none 0 0, .slice none 0 0]) w) ∧ (Tryz.prog.info? 68).map (·.size) = some 2 := zero_of_info (by kernel_rfl)
theorem mf_one (o : Option Addr) (n c : Nat) (o' : Option Addr) (n' c' : Nat) : (#[Value.slice o n c, Value.slice o' n' c'] : Array Value).all (·.oneCell') = true := by
  rw [Array.all_eq_true_iff_forall_mem]
  intro v hv
  simp at hv
  rcases hv with rfl | rfl <;> rfl
theorem mf_one0 : (#[Value.slice none 0 0, Value.slice none 0 0] : Array Value).all (·.oneCell') = true := mf_one none 0 0 none 0 0
theorem strRow_rec {w : World} {b : Nat} {l : List ByteArray} (h : RecAt w b 9 stringL l) : StrRow w (slR b l) l := by
  refine .inr ⟨b, 0, l.length, rfl, Nat.le_refl _, fun i hi => ?_, h.lt⟩
  have := h.cell stringL_len i 0 hi (by decide)
  rw [Nat.zero_add]
  simpa [stringL] using this

/-- What is answered for a macro: whether it is good, and two rows. -/
def RmAns (b : Bool) (e : Ending) : Prop := ∃ (o : Option Addr) (n c : Nat) (o' : Option Addr) (n' c' : Nat), e = .returned (.tuple #[.agg #[.slice o n c, .slice o' n' c'], .bool b])

set_option maxHeartbeats 16000000 in
set_option maxRecDepth 100000 in
theorem readMacro_any (m : Mac) (b c T0 : Nat) (w : World) (hs : MacSmall m 1048576) (hM : MacAt w b c m) (hT : Tab T0 w) (hT0 : T0 ≤ w.heap.size) :
    Calls Tryz.prog 30 #[.agg (macC b c m)] w fun e w' => RmAns (macOk m) e ∧ Below w.heap.size w w' := by
  obtain ⟨nm, lits, rules⟩ := m
  obtain ⟨s1, s2, s3, s4, s5⟩ := hs
  simp only at s1 s2 s3 s4 s5
  have hzr := zero_rule.1
  have hzm := zero_mf.1
  have lb := hM.1.lt
  have lc := hM.2.lt
  have hML : RecAt w b 9 stringL lits := hM.1
  have hMR : RecAt w c 32 ruleL rules := hM.2
  have HM := hideT' (And.intro hML hMR)
  have HS := hideT' (And.intro s4 s5)
  have hmx : nm.size ≤ maxLen := by unfold maxLen; omega
  obtain ⟨W0, hW0⟩ : ∃ W0, W0 = (w.alloc (.cells #[.string nm, slR b lits, slR c rules] 26)).alloc (.cells #[.slice none 0 0, .slice none 0 0] 68) := ⟨_, rfl⟩
  have hW0s : W0.heap.size = w.heap.size + 1 + 1 := by rw [hW0]; simp
  have hB0 : Below w.heap.size w W0 := by rw [hW0]; exact ((Below.refl _ _).alloc (Nat.le_refl _) _).alloc (by simp) _
  have hR0 : RowAt W0 w.heap.size 26 #[.string nm, slR b lits, slR c rules] := by rw [hW0]; exact RowAt.old (RowAt.new w _ _) _
  have hR1 : RowAt W0 (w.heap.size + 1) 68 #[.slice none 0 0, .slice none 0 0] := by
    have := RowAt.new (w.alloc (.cells #[.string nm, slR b lits, slR c rules] 26)) 68 #[.slice none 0 0, .slice none 0 0]
    rw [World.size_alloc] at this
    rw [hW0]; exact this
  have HRR := hideT' (And.intro hR0 hR1)
  -- what every later world knows
  have HF : Hid (∀ w', Below (w.heap.size + 1 + 1) W0 w' → (w'.cell? ⟨w.heap.size, 0, none⟩ = some (.string nm) ∧ w'.cell? ⟨w.heap.size, 1, none⟩ = some (slR b lits) ∧ w'.cell? ⟨w.heap.size, 2, none⟩ = some (slR c rules)) ∧ RowAt w' (w.heap.size + 1) 68 #[.slice none 0 0, .slice none 0 0] ∧ Below w.heap.size w w' ∧ w.heap.size + 1 + 1 ≤ w'.heap.size) := by
    intro w' h
    have hr := RowAt.below HRR.out.1 h (by omega)
    refine ⟨⟨?_, ?_, ?_⟩, RowAt.below HRR.out.2 h (by omega), hB0.trans (h.mono (by omega)), by have := h.size; omega⟩ <;> (rw [cell_of_row w' _ _ _ _ _ hr]; rfl)
  have HTab : Hid (∀ w', Below w.heap.size w w' → Tab w'.heap.size w') := fun w' hB => (hT.on (hB.mono hT0)).up (by have := hB.size; omega)
  have HE : Hid (macOk ⟨nm, lits, rules⟩ = ((symOk nm.data.toList && !inL kwL nm) && (decide (lits.length ≤ 10) && decide (1 ≤ rules.length ∧ rules.length ≤ 10)) && (lits.all (fun s => symOk s.data.toList) && rules.all ruleOk))) := rfl
  have HC1 := hideT' (implGoodSymbol_any nm W0 hmx (HTab.out W0 hB0))
  have HWE := hideT' hW0
  have HTT := hideT' hT
  obtain ⟨⟨f0, f1, f2⟩, _, _, _⟩ := HF.out W0 (Below.refl _ _)
  clear hM hML hMR s1 s4 s5 hR0 hR1 hB0 hmx hT
  rw [hW0] at f0 f1 f2
  clear hW0
  show Calls Tryz.prog 30 #[.agg #[.string nm, slR b lits, slR c rules]] w _
  go_enter Tryz.func30, Tryz.ntmps30
  go_wp2_with fail
  rw [← HWE.out]
  refine HC1.out.mono ?_
  rintro e w1 ⟨rfl, hB1⟩
  clear f0 f1 f2
  have hB1' : Below (w.heap.size + 1 + 1) W0 w1 := hB1.mono (by omega)
  obtain ⟨⟨f0, f1, f2⟩, _, hT1, hs1⟩ := HF.out w1 hB1'
  obtain ⟨q1, hq1⟩ : ∃ q, q = symOk nm.data.toList := ⟨_, rfl⟩
  rw [← hq1]
  have HQ1 := hideT' hq1
  clear hq1 hB1
  cases q1 with
  | false =>
    have HN : Hid (macOk ⟨nm, lits, rules⟩ = false) := by unfold Hid; rw [HE.out, ← HQ1.out]; rfl
    have hRz := (HF.out w1 hB1').2.1
    have hTz := (HF.out w1 hB1').2.2.1
    have hsz := (HF.out w1 hB1').2.2.2
    go_wp2_with (refine store_n rfl 68 _ _ rfl rfl zero_mf.2 (w.heap.size + 1) #[.slice none 0 0, .slice none 0 0] rfl mf_one0 rfl rfl _ rfl hRz ?_; intro w9 hR9 hg9 hs9)
    refine bodyPost_ret (v := .tuple #[.agg #[.slice none 0 0, .slice none 0 0], .bool false]) (res_row_tmp Tryz.results30 _ _ (w.heap.size + 1) _ _ _ rfl rfl hR9 Tryz.underlying68 zero_mf.2) rfl ⟨⟨none, 0, 0, none, 0, 0, by rw [HN.out]⟩, hTz.grown hg9 (by omega) (by intro k hk; cases hk; omega)⟩
  | true =>
  have HC2 := hideT' (implIsKeyword_any nm w1)
  go_wp2_with fail
  refine HC2.out.mono ?_
  rintro e w2 ⟨rfl, rfl⟩
  obtain ⟨q2, hq2⟩ : ∃ q, q = inL kwL nm := ⟨_, rfl⟩
  rw [← hq2]
  have HQ2 := hideT' hq2
  clear hq2
  cases q2 with
  | true =>
    have HN : Hid (macOk ⟨nm, lits, rules⟩ = false) := by unfold Hid; rw [HE.out, ← HQ1.out, ← HQ2.out]; rfl
    have hRz := (HF.out w2 hB1').2.1
    have hTz := (HF.out w2 hB1').2.2.1
    have hsz := (HF.out w2 hB1').2.2.2
    go_wp2_with (refine store_n rfl 68 _ _ rfl rfl zero_mf.2 (w.heap.size + 1) #[.slice none 0 0, .slice none 0 0] rfl mf_one0 rfl rfl _ rfl hRz ?_; intro w9 hR9 hg9 hs9)
    refine bodyPost_ret (v := .tuple #[.agg #[.slice none 0 0, .slice none 0 0], .bool false]) (res_row_tmp Tryz.results30 _ _ (w.heap.size + 1) _ _ _ rfl rfl hR9 Tryz.underlying68 zero_mf.2) rfl ⟨⟨none, 0, 0, none, 0, 0, by rw [HN.out]⟩, hTz.grown hg9 (by omega) (by intro k hk; cases hk; omega)⟩
  | false =>
  by_cases hl10 : (10 : Int) < (lits.length : Int)
  · have HN : Hid (macOk ⟨nm, lits, rules⟩ = false) := by
      unfold Hid; rw [HE.out, decide_eq_false (show ¬ lits.length ≤ 10 by omega)]; simp
    have hRz := (HF.out w2 hB1').2.1
    have hTz := (HF.out w2 hB1').2.2.1
    have hsz := (HF.out w2 hB1').2.2.2
    go_wp2_with (refine store_n rfl 68 _ _ rfl rfl zero_mf.2 (w.heap.size + 1) #[.slice none 0 0, .slice none 0 0] rfl mf_one0 rfl rfl _ rfl hRz ?_; intro w9 hR9 hg9 hs9)
    refine bodyPost_ret (v := .tuple #[.agg #[.slice none 0 0, .slice none 0 0], .bool false]) (res_row_tmp Tryz.results30 _ _ (w.heap.size + 1) _ _ _ rfl rfl hR9 Tryz.underlying68 zero_mf.2) rfl ⟨⟨none, 0, 0, none, 0, 0, by rw [HN.out]⟩, hTz.grown hg9 (by omega) (by intro k hk; cases hk; omega)⟩
  go_wp2_with fail
  go_loopg [28] lits.length (fun gg i wr => ∃ k : Nat, gg = lits.length - k ∧ k ≤ lits.length ∧ i = .int .i64 (k : Int) ∧ Hid (lits.all (fun s => symOk s.data.toList) = (lits.drop k).all (fun s => symOk s.data.toList)) ∧ Below (w.heap.size + 1 + 1) W0 wr)
  case atStart => exact ⟨0, rfl, by omega, by go_num, rfl, hB1'⟩
  case round =>
    obtain ⟨k, rfl, hk, rfl, HL, hW⟩ := hrel
    obtain ⟨⟨k0, k1, k2⟩, _, hTr, hsr⟩ := HF.out wr hW
    by_cases hlt : (k : Int) < (lits.length : Int)
    · have hk' : k < lits.length := by omega
      have hcell : wr.cell? ⟨b, k, none⟩ = some (.string (lits.getD k default)) := by
        have := ((HM.out.1.below hTr lb)).cell stringL_len k 0 hk' (by decide)
        simpa [stringL] using this
      have hall := all_take (fun s => symOk s.data.toList) lits k hk' HL.out
      have hss := HS.out.1 k hk'
      obtain ⟨t, ht⟩ : ∃ t, t = lits.getD k default := ⟨_, rfl⟩
      rw [← ht] at hcell hall hss
      have HALL := hideT' hall
      have HC4 := hideT' (implGoodSymbol_any t wr (by unfold maxLen; omega) (HTab.out wr hTr))
      clear hall ht k0 k1 k2 f0 f1 f2
      go_wp2_with fail
      refine HC4.out.mono ?_
      rintro e w4 ⟨rfl, hB4⟩
      have hW4 := hW.trans (hB4.mono hsr)
      obtain ⟨q, hq⟩ : ∃ q, q = symOk t.data.toList := ⟨_, rfl⟩
      rw [← hq]
      have HQ := hideT' hq
      clear hq hB4
      cases q with
      | false =>
        have HN : Hid (macOk ⟨nm, lits, rules⟩ = false) := by unfold Hid; rw [HE.out, HALL.out, ← HQ.out]; simp
        have hRz := (HF.out w4 hW4).2.1
        have hTz := (HF.out w4 hW4).2.2.1
        have hsz := (HF.out w4 hW4).2.2.2
        go_wp2_with (refine store_n rfl 68 _ _ rfl rfl zero_mf.2 (w.heap.size + 1) #[.slice none 0 0, .slice none 0 0] rfl mf_one0 rfl rfl _ rfl hRz ?_; intro w9 hR9 hg9 hs9)
        refine bodyPost_ret (v := .tuple #[.agg #[.slice none 0 0, .slice none 0 0], .bool false]) (res_row_tmp Tryz.results30 _ _ (w.heap.size + 1) _ _ _ rfl rfl hR9 Tryz.underlying68 zero_mf.2) rfl ⟨⟨none, 0, 0, none, 0, 0, by rw [HN.out]⟩, hTz.grown hg9 (by omega) (by intro k hk; cases hk; omega)⟩
      | true =>
        have HL2 : Hid (lits.all (fun s => symOk s.data.toList) = (lits.drop (k + 1)).all (fun s => symOk s.data.toList)) := by unfold Hid; rw [HALL.out, ← HQ.out]; rfl
        go_wp2
        go_roundg (lits.length - (k + 1))
        case measure => omega
        case rel => exact ⟨k + 1, rfl, by omega, by go_num, HL2, hW4⟩
    · have HLL : Hid (lits.all (fun s => symOk s.data.toList) = true) := by
        unfold Hid
        rw [HL.out, List.drop_eq_nil_of_le (by omega)]
        rfl
      by_cases hr1 : (rules.length : Int) < 1
      · have HN : Hid (macOk ⟨nm, lits, rules⟩ = false) := by
          unfold Hid; rw [HE.out, decide_eq_false (show ¬ (1 ≤ rules.length ∧ rules.length ≤ 10) by omega)]; simp
        clear f0 f1 f2
        have hRz := (HF.out wr hW).2.1
        have hTz := (HF.out wr hW).2.2.1
        have hsz := (HF.out wr hW).2.2.2
        go_wp2_with (refine store_n rfl 68 _ _ rfl rfl zero_mf.2 (w.heap.size + 1) #[.slice none 0 0, .slice none 0 0] rfl mf_one0 rfl rfl _ rfl hRz ?_; intro w9 hR9 hg9 hs9)
        refine bodyPost_ret (v := .tuple #[.agg #[.slice none 0 0, .slice none 0 0], .bool false]) (res_row_tmp Tryz.results30 _ _ (w.heap.size + 1) _ _ _ rfl rfl hR9 Tryz.underlying68 zero_mf.2) rfl ⟨⟨none, 0, 0, none, 0, 0, by rw [HN.out]⟩, hTz.grown hg9 (by omega) (by intro k hk; cases hk; omega)⟩
      by_cases hr10 : (10 : Int) < (rules.length : Int)
      · have HN : Hid (macOk ⟨nm, lits, rules⟩ = false) := by
          unfold Hid; rw [HE.out, decide_eq_false (show ¬ (1 ≤ rules.length ∧ rules.length ≤ 10) by omega)]; simp
        clear f0 f1 f2
        have hRz := (HF.out wr hW).2.1
        have hTz := (HF.out wr hW).2.2.1
        have hsz := (HF.out wr hW).2.2.2
        go_wp2_with (refine store_n rfl 68 _ _ rfl rfl zero_mf.2 (w.heap.size + 1) #[.slice none 0 0, .slice none 0 0] rfl mf_one0 rfl rfl _ rfl hRz ?_; intro w9 hR9 hg9 hs9)
        refine bodyPost_ret (v := .tuple #[.agg #[.slice none 0 0, .slice none 0 0], .bool false]) (res_row_tmp Tryz.results30 _ _ (w.heap.size + 1) _ _ _ rfl rfl hR9 Tryz.underlying68 zero_mf.2) rfl ⟨⟨none, 0, 0, none, 0, 0, by rw [HN.out]⟩, hTz.grown hg9 (by omega) (by intro k hk; cases hk; omega)⟩
      have HE3 : Hid (macOk ⟨nm, lits, rules⟩ = rules.all ruleOk) := by
        unfold Hid
        rw [HE.out, ← HQ1.out, ← HQ2.out, HLL.out, decide_eq_true (show lits.length ≤ 10 by omega), decide_eq_true (show 1 ≤ rules.length ∧ rules.length ≤ 10 by omega)]
        simp
      have hWl := hW
      obtain ⟨wl, hwl⟩ : ∃ wl, wl = wr := ⟨_, rfl⟩
      have hMf0 : MfRow (wr.alloc (.cells #[slR b lits, .slice none 0 0] 68)) wr.heap.size (slR b lits) 0 := ⟨.slice none 0 0, [], RowAt.new wr _ _, ⟨rfl, .inl ⟨rfl, rfl⟩⟩⟩
      have hBf0 : Below wr.heap.size wr (wr.alloc (.cells #[slR b lits, .slice none 0 0] 68)) := (Below.refl _ _).alloc (Nat.le_refl _) _
      have kk1 : (wr.alloc (.cells #[slR b lits, .slice none 0 0] 68)).cell? ⟨w.heap.size, 2, none⟩ = some (slR c rules) := (HF.out _ (hW.alloc (by omega) _)).1.2.2
      have HMB := hideT' (And.intro hMf0 hBf0)
      have hrle : rules.length ≤ 10 := by omega
      clear f0 f1 f2 hMf0 hBf0
      go_wp2_with fail
      rw [← hwl] at HMB hWl
      obtain ⟨M, hMe⟩ : ∃ M, M = wl.heap.size := ⟨_, rfl⟩
      have hsl := (HF.out wl hWl).2.2.2
      have HWL := hideT' (And.intro hWl hMe)
      rw [← hwl]
      rw [← hMe] at HMB ⊢
      clear hWl hW hTr hsr k0 k1 k2 kk1 hwl hMe
      go_loopg [54] rules.length (fun gg i wr => ∃ k : Nat, gg = rules.length - k ∧ k ≤ rules.length ∧ i = .int .i64 (k : Int) ∧ Hid (rules.all ruleOk = (rules.drop k).all ruleOk ∧ MfRow wr M (slR b lits) k) ∧ Below M wl wr)
      case atStart => exact ⟨0, rfl, by omega, by go_num, ⟨rfl, HMB.out.1⟩, HMB.out.2⟩
      case round =>
        obtain ⟨j, rfl, hj, rfl, HX, hW⟩ := hrel
        have hMl : M < wr.heap.size := by obtain ⟨_, _, h1, _⟩ := HX.out.2; exact RowAt.lt h1
        have hMe := HWL.out.2
        have hWr : Below (w.heap.size + 1 + 1) W0 wr := HWL.out.1.trans (hW.mono (by omega))
        have hT0M : T0 ≤ M := by omega
        have hwM : w.heap.size + 1 + 1 ≤ M := by omega
        clear hMe
        obtain ⟨⟨k0, k1, k2⟩, _, hTr, hsr⟩ := HF.out wr hWr
        by_cases hltj : (j : Int) < (rules.length : Int)
        · have hj' : j < rules.length := by omega
          have hrc := HM.out.2.below hTr lc
          have hc0 : wr.cell? ⟨c, j * 2, none⟩ = some (.string (rules.getD j default).1) := by
            have := hrc.cell ruleL_len j 0 hj' (by decide)
            simpa [ruleL] using this
          have hc1 : wr.cell? ⟨c, j * 2 + 1, none⟩ = some (.string (rules.getD j default).2) := by
            have := hrc.cell ruleL_len j 1 hj' (by decide)
            simpa [ruleL] using this
          have hall := all_take ruleOk rules j hj' HX.out.1
          have hss := HS.out.2 j hj'
          obtain ⟨⟨p, t⟩, hpt⟩ : ∃ pt, pt = rules.getD j default := ⟨_, rfl⟩
          rw [← hpt] at hc0 hc1 hall hss
          simp only at hc0 hc1 hss
          have hBn : Below wr.heap.size wr (wr.alloc (.cells #[.string p, .string t] 32)) := (Below.refl _ _).alloc (Nat.le_refl _) _
          have HALL := hideT' hall
          have hTn := hTr.trans (hBn.mono hTr.size)
          have HC5 := hideT' (addRule_any M (slR b lits) lits p t j T0 (wr.alloc (.cells #[.string p, .string t] 32)) (HX.out.2.below hBn) (strRow_rec (HM.out.1.below hTn lb)) (by omega) (by unfold maxLen; omega) (by unfold maxLen; omega) (HTT.out.on (hTn.mono hT0)) (by omega) (by omega))
          have hWn := hW.alloc (show M ≤ wr.heap.size by omega) (.cells #[.string p, .string t] 32)
          clear hall hpt k0 k1 k2 hrc hBn
          go_wp2_with fail
          refine HC5.out.mono ?_
          intro e w5 hA5
          obtain ⟨rfl, hMf5, hB5⟩ := hA5
          have hW5 := hWn.trans hB5
          obtain ⟨b1, hb1⟩ : ∃ b1, b1 = ruleOk (p, t) := ⟨_, rfl⟩
          rw [← hb1] at hMf5 ⊢
          have HB1 := hideT' hb1
          have HMf5 := hideT' hMf5
          have HW5 : Hid (Below (w.heap.size + 1 + 1) W0 w5) := HWL.out.1.trans (hW5.mono (by have := HWL.out.2; omega))
          clear hb1 hMf5 hB5 hWn hc0 hc1
          cases b1 with
          | false =>
            have HN : Hid (macOk ⟨nm, lits, rules⟩ = false) := by unfold Hid; rw [HE3.out, HALL.out, ← HB1.out]; rfl
            have hRz := (HF.out w5 HW5.out).2.1
            have hTz := (HF.out w5 HW5.out).2.2.1
            have hsz := (HF.out w5 HW5.out).2.2.2
            go_wp2_with (refine store_n rfl 68 _ _ rfl rfl zero_mf.2 (w.heap.size + 1) #[.slice none 0 0, .slice none 0 0] rfl mf_one0 rfl rfl _ rfl hRz ?_; intro w9 hR9 hg9 hs9)
            refine bodyPost_ret (v := .tuple #[.agg #[.slice none 0 0, .slice none 0 0], .bool false]) (res_row_tmp Tryz.results30 _ _ (w.heap.size + 1) _ _ _ rfl rfl hR9 Tryz.underlying68 zero_mf.2) rfl ⟨⟨none, 0, 0, none, 0, 0, by rw [HN.out]⟩, hTz.grown hg9 (by omega) (by intro k hk; cases hk; omega)⟩
          | true =>
            have HX2 : Hid (rules.all ruleOk = (rules.drop (j + 1)).all ruleOk ∧ MfRow w5 M (slR b lits) (j + 1)) := ⟨by rw [HALL.out, ← HB1.out]; rfl, HMf5.out rfl⟩
            go_wp2
            go_roundg (rules.length - (j + 1))
            case measure => omega
            case rel => exact ⟨j + 1, rfl, by omega, by go_num, HX2, hW5⟩
        · have HT : Hid (macOk ⟨nm, lits, rules⟩ = true) := by
            unfold Hid
            rw [HE3.out, HX.out.1, List.drop_eq_nil_of_le (by omega)]
            rfl
          obtain ⟨vr, xs, hrM, how⟩ := HX.out.2
          obtain ⟨ov, cv, rfl⟩ := own_form' how
          have m0 : wr.cell? ⟨M, 0, none⟩ = some (slR b lits) := by rw [cell_of_row wr _ _ _ _ _ hrM]; rfl
          have m1 : wr.cell? ⟨M, 1, none⟩ = some (.slice ov j cv) := by rw [cell_of_row wr _ _ _ _ _ hrM]; rfl
          have hRz := (HF.out wr hWr).2.1
          go_wp2_with (refine store_n rfl 68 _ _ rfl rfl zero_mf.2 (w.heap.size + 1) #[slR b lits, .slice ov j cv] rfl (mf_one _ _ _ _ _ _) rfl rfl _ rfl hRz ?_; intro w9 hR9 hg9 hs9)
          refine bodyPost_ret (v := .tuple #[.agg #[slR b lits, .slice ov j cv], .bool true]) (res_row_tmp Tryz.results30 _ _ (w.heap.size + 1) _ _ _ rfl rfl hR9 Tryz.underlying68 zero_mf.2) rfl ⟨⟨_, _, _, ov, j, cv, by rw [HT.out]⟩, hTr.grown hg9 (by omega) (by intro k hk; cases hk; omega)⟩

set_option maxHeartbeats 2000000 in
theorem implGoodMacro_any (m : Mac) (b c T0 : Nat) (w : World) (hs : MacSmall m 1048576) (hM : MacAt w b c m) (hT : Tab T0 w) (hT0 : T0 ≤ w.heap.size) :
    Calls Tryz.prog 15 #[.agg (macC b c m)] w fun e w' => e = .returned (.bool (macOk m)) ∧ Below w.heap.size w w' := by
  have hz := zero_mf.1
  have hB0 : Below w.heap.size w (w.alloc (.cells (macC b c m) 26)) := (Below.refl _ _).alloc (Nat.le_refl _) _
  have lb := hM.1.lt
  have lc := hM.2.lt
  have HC := hideT' (readMacro_any m b c T0 (w.alloc (.cells (macC b c m) 26)) hs (hM.below hB0 lb lc) (hT.on (hB0.mono hT0)) (by simp; omega))
  clear hs hM hT
  go_enter Tryz.func15, Tryz.ntmps15
  go_wp2_with fail
  refine HC.out.mono ?_
  rintro e w1 ⟨⟨o, n, cc, o', n', cc', rfl⟩, hB1⟩
  have hBw1 : Below w.heap.size w w1 := hB0.trans (hB1.mono (by simp))
  have hBw2 := hBw1.alloc hBw1.size (.cells #[.slice o n cc, .slice o' n' cc'] 68)
  obtain ⟨q, hq⟩ : ∃ q, q = macOk m := ⟨_, rfl⟩
  rw [← hq]
  have HQ := hideT' hq
  clear hq
  go_wp2
  go_ret
  exact ⟨by rw [← HQ.out]; rfl, hBw2⟩
end Go.Proofs.YtehjejjkfeljmaaGreatDoor
