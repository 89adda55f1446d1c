/-
  Macros: such as came in, and what the laws' own helpers over them answer.
-/
import Derived.Test.YtehjejjkfeljmaaGreatDoorRecArg
import Derived.Test.YtehjejjkfeljmaaGreatDoorRecString
import Derived.Test.YtehjejjkfeljmaaGreatDoorRecRule
import Derived.Test.YtehjejjkfeljmaaGreatDoorPkSeats
namespace Go.Proofs.YtehjejjkfeljmaaGreatDoor
open Go.ChangeShapes Go.WideShapes Go.ChangeAt Go.RowKit
set_option linter.unusedVariables false

structure Mac where
  name : ByteArray
  lits : List ByteArray
  rules : List (ByteArray × ByteArray)

/-- A macro's texts are not longer than so much. -/
def MacSmall (m : Mac) (n : Nat) : Prop := m.name.size ≤ n ∧ m.lits.length ≤ n ∧ m.rules.length ≤ n ∧ (∀ i, i < m.lits.length → (m.lits.getD i default).size ≤ n) ∧ ∀ i, i < m.rules.length → (m.rules.getD i default).1.size ≤ n ∧ (m.rules.getD i default).2.size ≤ n
/-- A macro that came in. -/
def MacIn (w : World) (vl vr : Value) (m : Mac) : Prop := SlR w vl stringL 1 m.lits ∧ SlR w vr ruleL 2 m.rules
theorem MacIn.below {w w' : World} {vl vr : Value} {m : Mac} (h : MacIn w vl vr m) (hB : Below w.heap.size w w') : MacIn w' vl vr m := ⟨h.1.below hB, h.2.below hB⟩
/-- A macro's own memory. -/
def MacAt (w : World) (b c : Nat) (m : Mac) : Prop := RecAt w b 9 stringL m.lits ∧ RecAt w c 32 ruleL m.rules
theorem MacAt.below {w w' : World} {b c B : Nat} {m : Mac} (h : MacAt w b c m) (hB : Below B w w') (hb : b < B) (hc : c < B) : MacAt w' b c m := ⟨h.1.below hB hb, h.2.below hB hc⟩
/-- A macro as a value. -/
abbrev macC (b c : Nat) (m : Mac) : Array Value := #[.string m.name, slR b m.lits, slR c m.rules]

set_option maxHeartbeats 1000000 in
set_option maxRecDepth 100000 in
theorem szMacro_any (m : Mac) (vl vr : Value) (n : Nat) (w : World) (hv : MacIn w vl vr m) (hs : MacSmall m maxLen) (hn1 : n ≤ 1048576) :
    Calls Tryz.prog 12 #[.agg #[.string m.name, vl, vr], .int .i64 (n : Int)] w fun e w' => (∃ r : Int, e = .returned (.int .i64 r) ∧ (r = -1 ∨ (0 ≤ r ∧ MacSmall m n))) ∧ Below w.heap.size w w' := by
  obtain ⟨nm, lits, rules⟩ := m
  obtain ⟨s1, s2, s3, s4, s5⟩ := hs
  obtain ⟨o1, c1, e1⟩ := hv.1.len
  obtain ⟨o2, c2, e2⟩ := hv.2.len
  simp only at s1 s2 s3 s4 s5 e1 e2
  subst e1
  subst e2
  have hs1 := s1
  unfold maxLen at hs1
  have HV := hideT' hv
  have HS := hideT' (And.intro s2 (And.intro s3 (And.intro s4 s5)))
  have hB : Below w.heap.size w (w.alloc (.cells #[.string nm, .slice o1 lits.length c1, .slice o2 rules.length c2] 41)) := (Below.refl _ _).alloc (Nat.le_refl _) _
  have HVB := hideT' (HV.out.below hB)
  clear hv s1 s2 s3 s4 s5
  by_cases h0 : (n : Int) - (nm.size : Int) < 0
  · go_enter Tryz.func12, Tryz.ntmps12
    go_wp2
    go_ret
    exact ⟨⟨-1, rfl, .inl rfl⟩, hB⟩
  · go_enter Tryz.func12, Tryz.ntmps12
    go_wp2_with fail
    refine (szStringS_any lits _ ((n : Int) - (nm.size : Int)) _ HVB.out.1 HS.out.2.2.1 (by omega) (by omega) HS.out.1).mono ?_
    rintro e w1 ⟨⟨r, rfl, hr⟩, rfl⟩
    rcases hr with rfl | ⟨hr0, hr1, hr2, hr3⟩
    · go_wp2
      go_ret
      exact ⟨⟨-1, rfl, .inl rfl⟩, hB⟩
    · have hrn : ¬ r < 0 := by omega
      have HR3 := hideT' hr3
      clear hr3
      go_wp2_with fail
      refine (szRuleS_any rules _ r _ HVB.out.2 HS.out.2.2.2 (by omega) (by omega) HS.out.2.1).mono ?_
      rintro e w2 ⟨⟨q, rfl, hq⟩, hB2⟩
      have hB3 : Below w.heap.size w w2 := hB.trans (hB2.mono hB.size)
      rcases hq with rfl | ⟨hq0, hq1, hq2, hq3⟩
      · go_wp2
        go_ret
        exact ⟨⟨-1, rfl, .inl rfl⟩, hB3⟩
      · have hqn : ¬ q < 0 := by omega
        have HSM : Hid (MacSmall ⟨nm, lits, rules⟩ n) := by
          refine ⟨by show nm.size ≤ n; omega, by show lits.length ≤ n; omega, by show rules.length ≤ n; omega, fun i hi => ?_, fun i hi => ?_⟩
          · have := HR3.out i hi
            show (lits.getD i default).size ≤ n
            omega
          · have := hq3 i hi
            show (rules.getD i default).1.size ≤ n ∧ (rules.getD i default).2.size ≤ n
            omega
        clear hq3
        go_wp2
        go_ret
        exact ⟨⟨q, rfl, .inr ⟨hq0, HSM.out⟩⟩, hB3⟩

theorem mac_one (b c : Nat) (m : Mac) : (macC b c m).all (·.oneCell') = true := by
  rw [Array.all_eq_true_iff_forall_mem]
  intro v hv
  simp at hv
  rcases hv with rfl | rfl | rfl <;> rfl
theorem zero_mac : (∀ w, (zeroValue 26).run Tryz.prog w = .ok (.agg #[.string ⟨#[]⟩, .slice none 0 0, .slice none 0 0]) w) ∧ (Tryz.prog.info? 26).map (·.size) = some 3 := zero_of_info (by kernel_rfl)
theorem size_lmac : (Tryz.prog.info? 41).map (·.size) = some 3 := by kernel_rfl
theorem run_load3 {o : Oper} {a : Act} {w : World} (x : Operand) (T : TypeId) (ho : o.op = .load T x) (b : Nat) (hx : a.eval x = .pointer (some ⟨b, 0, none⟩)) (cs : Array Value) (fs : Array Field) (hN : RowAt w b T cs) (hu : Tryz.prog.underlying T = some (.struct fs)) (hi : (Tryz.prog.info? T).map (·.size) = some cs.size) :
    (execOp a.eval o).run Tryz.prog w = .ok (.value (.agg cs)) w := by
  have h := run_loadVar_row (P := Tryz.prog) w b T T cs (0, 0) (.struct fs) hN hu rfl hi
  unfold execOp
  simp only [ho, hx, Instr.loadAt, Instr.sureAddr, Sem.run_bind, Sem.run_pure, Result.andThen_ok, h]
theorem size_slstr : (Tryz.prog.info? 23).map (·.size) = some 1 := by kernel_rfl
theorem size_slrule : (Tryz.prog.info? 24).map (·.size) = some 1 := by kernel_rfl

set_option maxHeartbeats 2000000 in
set_option maxRecDepth 100000 in
theorem toMacro_any (m : Mac) (vl vr : Value) (w : World) (hv : MacIn w vl vr m) (h1 : m.lits.length ≤ 1048576) (h2 : m.rules.length ≤ 1048576) :
    Calls Tryz.prog 14 #[.agg #[.string m.name, vl, vr]] w fun e w' => (∃ b c, e = .returned (.agg (macC b c m)) ∧ w.heap.size ≤ b ∧ w.heap.size ≤ c ∧ MacAt w' b c m) ∧ Below w.heap.size w w' := by
  obtain ⟨nm, lits, rules⟩ := m
  obtain ⟨o1, c1, e1⟩ := hv.1.len
  obtain ⟨o2, c2, e2⟩ := hv.2.len
  simp only at e1 e2 h1 h2
  subst e1
  subst e2
  have hz := zero_mac.1
  have HV := hideT' hv
  -- the worlds ahead of the first call
  obtain ⟨W, hW⟩ : ∃ W, W = ((w.alloc (.cells #[.string nm, .slice o1 lits.length c1, .slice o2 rules.length c2] 41)).alloc (.cells #[.string ⟨#[]⟩, .slice none 0 0, .slice none 0 0] 26)).alloc (.cells #[.string nm, .slice none 0 0, .slice none 0 0] 26) := ⟨_, rfl⟩
  have hWs : W.heap.size = w.heap.size + 3 := by rw [hW]; simp
  have hBW : Below w.heap.size w W := by rw [hW]; exact (((Below.refl _ _).alloc (Nat.le_refl _) _).alloc (by simp) _).alloc (by simp; omega) _
  have R0 : RowAt W w.heap.size 41 #[.string nm, .slice o1 lits.length c1, .slice o2 rules.length c2] := by rw [hW]; exact RowAt.old (RowAt.old (RowAt.new w _ _) _) _
  have R1 : RowAt W (w.heap.size + 1) 26 #[.string ⟨#[]⟩, .slice none 0 0, .slice none 0 0] := by
    have := RowAt.new (w.alloc (.cells #[.string nm, .slice o1 lits.length c1, .slice o2 rules.length c2] 41)) 26 #[.string ⟨#[]⟩, .slice none 0 0, .slice none 0 0]
    rw [World.size_alloc] at this
    rw [hW]; exact RowAt.old this _
  have R2 : RowAt W (w.heap.size + 1 + 1) 26 #[.string nm, .slice none 0 0, .slice none 0 0] := by
    have := RowAt.new ((w.alloc (.cells #[.string nm, .slice o1 lits.length c1, .slice o2 rules.length c2] 41)).alloc (.cells #[.string ⟨#[]⟩, .slice none 0 0, .slice none 0 0] 26)) 26 #[.string nm, .slice none 0 0, .slice none 0 0]
    rw [World.size_alloc, World.size_alloc] at this
    rw [hW]; exact this
  have HRS := hideT' (And.intro R0 (And.intro R1 R2))
  have HBW := hideT' hBW
  have HWE := hideT' hW
  clear hv hBW R0 R1 R2 hW
  go_enter Tryz.func14, Tryz.ntmps14
  go_wp2_with fail
  rw [← HWE.out]
  refine (toStringS_any lits _ W (HV.out.below HBW.out).1 h1).mono ?_
  rintro e wa ⟨⟨b, rfl, hb, hDb⟩, hBa⟩
  have hsa := hBa.size
  have r0 := RowAt.below HRS.out.1 hBa (by omega)
  have r1 := RowAt.below HRS.out.2.1 hBa (by omega)
  have r2 := RowAt.below HRS.out.2.2 hBa (by omega)
  have c02 : wa.cell? ⟨w.heap.size, 2, none⟩ = some (.slice o2 rules.length c2) := by rw [cell_of_row wa _ _ _ _ _ r0]; rfl
  have HRA := hideT' (And.intro r1 hDb)
  have hbl := hDb.lt
  have HBA := hideT' (HBW.out.trans (hBa.mono (by omega)))
  have HRR0 := hideT' r0
  clear r0 r1 hDb hBa
  go_wp2_with (refine store_at rfl 23 _ _ rfl rfl (w.heap.size + 1 + 1) 1 _ rfl rfl size_slstr rfl 26 _ r2 (show 1 < 3 by omega) ?_; intro wb rb hgb hsb; have c02b : wb.cell? ⟨w.heap.size, 2, none⟩ = some (.slice o2 rules.length c2) := (by rw [cell_of_row wb _ _ _ _ _ (RowAt.grown HRR0.out hgb (by intro e; injection e; omega))]; rfl))
  have hBb : Below w.heap.size w wb := HBA.out.grown hgb (by omega) (by intro k hk; cases hk; omega)
  have HRB : Hid (RowAt wb (w.heap.size + 1) 26 #[.string ⟨#[]⟩, .slice none 0 0, .slice none 0 0] ∧ RowAt wb (w.heap.size + 1 + 1) 26 #[.string nm, slR b lits, .slice none 0 0] ∧ RecAt wb b 9 stringL lits) :=
    ⟨RowAt.grown HRA.out.1 hgb (by intro e; injection e; omega), rb, RowAt.grown HRA.out.2 hgb (by intro e; injection e; omega)⟩
  clear c02 r2 rb hgb
  have HC2 := hideT' (toRuleS_any rules (.slice o2 rules.length c2) wb (HV.out.below hBb).2 h2)
  go_wp2_with fail
  refine HC2.out.mono ?_
  rintro e wc ⟨⟨c, rfl, hc, hDc⟩, hBc⟩
  have hsc := hBc.size
  have hcl := hDc.lt
  have q2 := RowAt.below HRB.out.2.1 hBc (by omega)
  have HRC : Hid (RowAt wc (w.heap.size + 1) 26 #[.string ⟨#[]⟩, .slice none 0 0, .slice none 0 0] ∧ RecAt wc b 9 stringL lits ∧ RecAt wc c 32 ruleL rules) := ⟨RowAt.below HRB.out.1 hBc (by omega), HRB.out.2.2.below hBc (by omega), hDc⟩
  have HBC := hideT' (hBb.trans (hBc.mono hBb.size))
  clear hDc hBc c02b
  go_wp2_with (first | (refine store_at rfl 24 _ _ rfl rfl (w.heap.size + 1 + 1) 2 _ rfl rfl size_slrule rfl 26 _ q2 (show 2 < 3 by omega) ?_; intro wd rd hgd hsd; have rd' : RowAt wd (w.heap.size + 1 + 1) 26 #[.string nm, slR b lits, slR c rules] := rd; have d0 : wd.cell? ⟨w.heap.size + 1 + 1, 0, none⟩ = some (.string nm) := (by rw [cell_of_row wd _ _ _ _ _ rd']; rfl); have d1 : wd.cell? ⟨w.heap.size + 1 + 1, 1, none⟩ = some (slR b lits) := (by rw [cell_of_row wd _ _ _ _ _ rd']; rfl); have d2 : wd.cell? ⟨w.heap.size + 1 + 1, 2, none⟩ = some (slR c rules) := (by rw [cell_of_row wd _ _ _ _ _ rd']; rfl); have p1 := RowAt.grown HRC.out.1 hgd (by intro e; injection e; omega)) | (refine store_3 rfl 26 _ _ rfl rfl zero_mac.2 (w.heap.size + 1) (macC b c ⟨nm, lits, rules⟩) rfl (mac_one b c ⟨nm, lits, rules⟩) rfl rfl _ rfl p1 ?_; intro we hR9 hge hse))
  have hBd : Below w.heap.size w wd := HBC.out.grown hgd (by omega) (by intro k hk; cases hk; omega)
  have HRD : Hid (RecAt wd b 9 stringL lits ∧ RecAt wd c 32 ruleL rules) := ⟨RowAt.grown HRC.out.2.1 hgd (by intro e; injection e; omega), RowAt.grown HRC.out.2.2 hgd (by intro e; injection e; omega)⟩
  refine bodyPost_ret (v := .agg (macC b c ⟨nm, lits, rules⟩)) (results_cell_row Tryz.results14 _ _ (w.heap.size + 1) 26 (macC b c ⟨nm, lits, rules⟩) (0, 0) _ rfl hR9 Tryz.underlying26 rfl zero_mac.2) rfl ⟨⟨b, c, rfl, by omega, by omega, ?_, ?_⟩, ?_⟩
  · exact RowAt.grown HRD.out.1 hge (by intro e; injection e; omega)
  · exact RowAt.grown HRD.out.2 hge (by intro e; injection e; omega)
  · exact hBd.grown hge (by omega) (by intro k hk; cases hk; omega)

set_option maxHeartbeats 1000000 in
set_option maxRecDepth 100000 in
theorem eqMacro_any (m : Mac) (b c b' c' : Nat) (w : World) (h1 : m.lits.length ≤ 1048576) (h2 : m.rules.length ≤ 1048576) (hM : MacAt w b c m) (hM' : MacAt w b' c' m) :
    Calls Tryz.prog 16 #[.agg (macC b c m), .agg (macC b' c' m)] w fun e w' => e = .returned (.bool true) ∧ Below w.heap.size w w' := by
  obtain ⟨nm, lits, rules⟩ := m
  simp only at h1 h2
  have hB : Below w.heap.size w ((w.alloc (.cells #[.string nm, slR b lits, slR c rules] 26)).alloc (.cells #[.string nm, slR b' lits, slR c' rules] 26)) := ((Below.refl _ _).alloc (Nat.le_refl _) _).alloc (by simp) _
  have l1 := hM.1.lt
  have l2 := hM.2.lt
  have l3 := hM'.1.lt
  have l4 := hM'.2.lt
  have HM := hideT' (hM.below hB l1 l2)
  have HM' := hideT' (hM'.below hB l3 l4)
  clear hM hM'
  show Calls Tryz.prog 16 #[.agg #[.string nm, slR b lits, slR c rules], .agg #[.string nm, slR b' lits, slR c' rules]] w _
  have hne : (nm.toList != nm.toList) = false := by simp
  go_enter Tryz.func16, Tryz.ntmps16
  go_wp2_with fail
  refine (eqStringS_any b b' lits _ h1 HM.out.1 HM'.out.1).mono ?_
  rintro e w1 ⟨rfl, hB1⟩
  have hBw1 : Below w.heap.size w w1 := hB.trans (hB1.mono hB.size)
  have hs1 := hB1.size
  simp only [World.size_alloc] at hs1
  have e02 : w1.cell? ⟨w.heap.size, 2, none⟩ = some (slR c rules) := by
    have hr := RowAt.below (RowAt.old (RowAt.new w 26 #[.string nm, slR b lits, slR c rules]) (.cells #[.string nm, slR b' lits, slR c' rules] 26)) hB1 (by simp; omega)
    rw [cell_of_row w1 _ _ _ _ _ hr]; rfl
  have e12 : w1.cell? ⟨w.heap.size + 1, 2, none⟩ = some (slR c' rules) := by
    have hn := RowAt.new (w.alloc (.cells #[.string nm, slR b lits, slR c rules] 26)) 26 #[.string nm, slR b' lits, slR c' rules]
    rw [World.size_alloc] at hn
    have hr := RowAt.below hn hB1 (by simp)
    rw [cell_of_row w1 _ _ _ _ _ hr]; rfl
  have HC2 := hideT' (eqRuleS_any c c' rules w1 h2 (HM.out.2.below hB1 (by simp; omega)) (HM'.out.2.below hB1 (by simp; omega)))
  go_wp2_with fail
  refine HC2.out.mono ?_
  rintro e w2 ⟨rfl, hB2⟩
  have hBw2 : Below w.heap.size w w2 := hBw1.trans (hB2.mono hBw1.size)
  go_wp2
  go_ret
  exact ⟨rfl, hBw2⟩

set_option maxRecDepth 100000 in
theorem open_rule {H : Type} {enc : TypeId × Value → H} {W : World} (n : Nat) (cs : List Value) (x : DataW H × List MemPlace) (hl : cs.length = 2) (h : DataW.trod enc Tryz.prog W 0 (fun _ => true) true n 137 cs = some x) :
    ∃ d : ByteArray × ByteArray, cs = ruleL d ∧ (d.1.size ≤ maxLen ∧ d.2.size ≤ maxLen) := by
  obtain ⟨xs, m, _, _, _, hlen, hf⟩ := DataW.trod_struct Tryz.underlying137 h
  obtain ⟨a, b, rfl⟩ : ∃ a b, cs = [a, b] := by
    match cs, hl with
    | [a, b], _ => exact ⟨a, b, rfl⟩
  obtain ⟨y0, y1, rfl⟩ : ∃ y0 y1, xs = [y0, y1] := by
    match xs, hlen with
    | [y0, y1], _ => exact ⟨y0, y1, rfl⟩
  have g0 : DataW.trod enc Tryz.prog W 0 (fun _ => true) true m 9 (([a, b].drop 0).take (Tryz.prog.cellsOf 9)) = some y0 := by simpa using hf 0 _ rfl
  have g1 : DataW.trod enc Tryz.prog W 0 (fun _ => true) true m 9 (([a, b].drop 1).take (Tryz.prog.cellsOf 9)) = some y1 := by simpa using hf 1 _ rfl
  rw [cells_strR] at g0 g1
  obtain ⟨s, e0, _, h0⟩ := DataW.trod_string Tryz.underlying9 g0
  obtain ⟨t, e1, _, h1⟩ := DataW.trod_string Tryz.underlying9 g1
  simp at e0 e1
  exact ⟨(s, t), by rw [e0, e1]; rfl, h0, h1⟩
theorem open_str1 {H : Type} {enc : TypeId × Value → H} {W : World} (n : Nat) (cs : List Value) (x : DataW H × List MemPlace) (hl : cs.length = 1) (h : DataW.trod enc Tryz.prog W 0 (fun _ => true) true n 9 cs = some x) :
    ∃ d : ByteArray, cs = stringL d ∧ d.size ≤ maxLen := by
  obtain ⟨s, e0, _, h0⟩ := DataW.trod_string Tryz.underlying9 h
  exact ⟨s, e0, h0⟩
theorem cells_lrule : Tryz.prog.cellsOf 137 = 2 := by kernel_rfl
theorem cells_slsR : Tryz.prog.cellsOf 23 = 1 := by kernel_rfl
theorem cells_slrR : Tryz.prog.cellsOf 39 = 1 := by kernel_rfl

set_option maxRecDepth 100000 in
/-- A macro as an argument. -/
theorem open_macro {H : Type} {enc : TypeId × Value → H} {W : World} {base : Nat} {v : Value} {d : DataW H} {ps : List MemPlace} (hval : Value.okWide Tryz.prog W .any base 41 v) (h : DataW.Trod enc Tryz.prog W 0 (fun _ => true) true 41 v d ps) :
    ∃ (m : Mac) (vl vr : Value), v = .agg #[.string m.name, vl, vr] ∧ MacIn W vl vr m ∧ MacSmall m maxLen := by
  obtain ⟨cs, rfl, hcs⟩ := okWide_struct Tryz.underlying41 hval
  have hc3 : Tryz.prog.cellsOf 41 = 3 := by kernel_rfl
  rw [hc3] at hcs
  obtain ⟨a, b, c, rfl⟩ : ∃ a b c, cs = #[a, b, c] := by
    obtain ⟨l⟩ := cs
    match l, hcs with
    | [a, b, c], _ => exact ⟨a, b, c, rfl⟩
  obtain ⟨fuel, hf⟩ := h
  obtain ⟨y0, y1, y2, m, _, _, h0, h1, h2⟩ := Deep.trod_struct3 Tryz.underlying41 hf
  have g0 : DataW.trod enc Tryz.prog W 0 (fun _ => true) true m 9 (([a, b, c].drop 0).take (Tryz.prog.cellsOf 9)) = some y0 := h0
  have g1 : DataW.trod enc Tryz.prog W 0 (fun _ => true) true m 23 (([a, b, c].drop 1).take (Tryz.prog.cellsOf 23)) = some y1 := h1
  have g2 : DataW.trod enc Tryz.prog W 0 (fun _ => true) true m 39 (([a, b, c].drop 2).take (Tryz.prog.cellsOf 39)) = some y2 := h2
  rw [cells_strR] at g0
  rw [cells_slsR] at g1
  rw [cells_slrR] at g2
  obtain ⟨s, e0, _, q0⟩ := DataW.trod_string Tryz.underlying9 g0
  obtain ⟨vl, lits, e1, hL, q1, q1'⟩ := open_recs stringL 1 (by decide) stringL_len (fun d => d.size ≤ maxLen) Tryz.underlying23 cells_strR open_str1 g1
  obtain ⟨vr, rules, e2, hR, q2, q2'⟩ := open_recs ruleL 2 (by decide) ruleL_len (fun d => d.1.size ≤ maxLen ∧ d.2.size ≤ maxLen) Tryz.underlying39 cells_lrule open_rule g2
  simp at e0 e1 e2
  subst e0
  subst e1
  subst e2
  exact ⟨⟨s, lits, rules⟩, _, _, rfl, ⟨hL, hR⟩, q0, q1', q2', q1, q2⟩
end Go.Proofs.YtehjejjkfeljmaaGreatDoor
