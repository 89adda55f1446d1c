/-
  Heaps: such as came in, and what the laws' own helpers over them answer.
-/
import Derived.Test.YtelciainidklgaaDoorRecArg
import Derived.Test.YtelciainidklgaaDoorMarkCell
import Derived.Test.YtelciainidklgaaDoorMarkInt
namespace Go.Proofs.YtelciainidklgaaDoor
open Go.ChangeShapes Go.WideShapes Go.ChangeAt Go.RowKit
set_option linter.unusedVariables false

/-- A cell: Leaf, N, A, B. -/
abbrev Cl := Bool × Int × Int × Int
structure Hp where
  old : Int
  cells : List Cl
  roots : List Int

def HpSmall (h : Hp) (n : Nat) : Prop := h.cells.length ≤ n ∧ h.roots.length ≤ n
/-- A heap that came in. -/
def HpIn (w : World) (vl vr : Value) (h : Hp) : Prop := SlR w vl cellL 4 h.cells ∧ SlR w vr intL 1 h.roots
theorem HpIn.below {w w' : World} {vl vr : Value} {m : Hp} (h : HpIn w vl vr m) (hB : Below w.heap.size w w') : HpIn w' vl vr m := ⟨h.1.below hB, h.2.below hB⟩
/-- A heap's own memory. -/
def HpAt (w : World) (b c : Nat) (m : Hp) : Prop := RecAt w b 99 cellL m.cells ∧ RecAt w c 3 intL m.roots
theorem HpAt.below {w w' : World} {b c B : Nat} {m : Hp} (h : HpAt w b c m) (hB : Below B w w') (hb : b < B) (hc : c < B) : HpAt w' b c m := ⟨h.1.below hB hb, h.2.below hB hc⟩
/-- A heap that can be read. -/
def HpRd (w : World) (vl vr : Value) (m : Hp) : Prop := InR w vl cellL 4 m.cells ∧ InR w vr intL 1 m.roots
theorem HpRd.below {w w' : World} {vl vr : Value} {m : Hp} (h : HpRd w vl vr m) (hB : Below w.heap.size w w') : HpRd w' vl vr m := ⟨h.1.below hB, h.2.below hB⟩
theorem HpAt.rd {w : World} {b c : Nat} {m : Hp} (h : HpAt w b c m) : HpRd w (slR b m.cells) (slR c m.roots) m := ⟨h.1.inR cellL_len, h.2.inR intL_len⟩
/-- A heap as a value. -/
abbrev hpC (b c : Nat) (m : Hp) : Array Value := #[.int .i64 m.old, slR b m.cells, slR c m.roots]

set_option maxHeartbeats 1000000 in
set_option maxRecDepth 100000 in
theorem szHeap_any (m : Hp) (vl vr : Value) (w : World) (hv : HpIn w vl vr m) (hs : HpSmall m maxLen) :
    Calls Tryd.prog 21 #[.agg #[.int .i64 m.old, vl, vr], .int .i64 1048576] w fun e w' => (∃ r : Int, e = .returned (.int .i64 r) ∧ (r = -1 ∨ (0 ≤ r ∧ HpSmall m 1048576))) ∧ Below w.heap.size w w' := by
  obtain ⟨old, cells, roots⟩ := m
  obtain ⟨s2, s3⟩ := hs
  obtain ⟨o1, c1, e1⟩ := hv.1.len
  obtain ⟨o2, c2, e2⟩ := hv.2.len
  simp only at s2 s3 e1 e2
  subst e1
  subst e2
  have HV := hideT' hv
  have HS := hideT' (And.intro s2 s3)
  have hB : Below w.heap.size w (w.alloc (.cells #[.int .i64 old, .slice o1 cells.length c1, .slice o2 roots.length c2] 46)) := (Below.refl _ _).alloc (Nat.le_refl _) _
  have HVB := hideT' (HV.out.below hB)
  clear hv s2 s3
  go_enter Tryd.func21, Tryd.ntmps21
  go_wp2_with fail
  refine (szCellS_any cells _ 1048576 _ HVB.out.1 (by omega) (by omega) HS.out.1).mono ?_
  rintro e w1 ⟨⟨r, rfl, hr⟩, rfl⟩
  rcases hr with rfl | ⟨hr0, hr1, hr2⟩
  · go_wp2
    go_ret
    exact ⟨⟨-1, rfl, .inl rfl⟩, hB⟩
  · have hrn : ¬ r < 0 := by omega
    go_wp2_with fail
    refine (szIntS_any roots _ r _ HVB.out.2 (by omega) (by omega) HS.out.2).mono ?_
    rintro e w2 ⟨⟨q, rfl, hq⟩, rfl⟩
    rcases hq with rfl | ⟨hq0, hq1, hq2⟩
    · go_wp2
      go_ret
      exact ⟨⟨-1, rfl, .inl rfl⟩, hB⟩
    · have hqn : ¬ q < 0 := by omega
      have HSM : Hid (HpSmall ⟨old, cells, roots⟩ 1048576) := ⟨by show cells.length ≤ 1048576; omega, by show roots.length ≤ 1048576; omega⟩
      go_wp2
      go_ret
      exact ⟨⟨q, rfl, .inr ⟨hq0, HSM.out⟩⟩, hB⟩

theorem hp_one (old : Int) (o : Option Addr) (n c : Nat) (o' : Option Addr) (n' c' : Nat) : (#[Value.int .i64 old, .slice o n c, .slice o' n' c'] : Array Value).all (·.oneCell') = true := by
  rw [Array.all_eq_true_iff_forall_mem]
  intro v hv
  simp at hv
  rcases hv with rfl | rfl | rfl <;> rfl
theorem zero_hp : (∀ w, (zeroValue 50).run Tryd.prog w = .ok (.agg #[.int .i64 0, .slice none 0 0, .slice none 0 0]) w) ∧ (Tryd.prog.info? 50).map (·.size) = some 3 := zero_of_info (by kernel_rfl)
theorem size_lhp : (Tryd.prog.info? 46).map (·.size) = some 3 := by kernel_rfl
theorem size_slcell : (Tryd.prog.info? 29).map (·.size) = some 1 := by kernel_rfl
theorem size_ints : (Tryd.prog.info? 23).map (·.size) = some 1 := by kernel_rfl
theorem run_loadRow {o : Oper} {a : Act} {w : World} (x : Operand) (T : TypeId) (ho : o.op = .load T x) (b : Nat) (hx : a.eval x = .pointer (some ⟨b, 0, none⟩)) (cs : Array Value) (fs : Array Field) (hN : RowAt w b T cs) (hu : Tryd.prog.underlying T = some (.struct fs)) (hi : (Tryd.prog.info? T).map (·.size) = some cs.size) :
    (execOp a.eval o).run Tryd.prog w = .ok (.value (.agg cs)) w := by
  have h := run_loadVar_row (P := Tryd.prog) w b T T cs (0, 0) (.struct fs) hN hu rfl hi
  unfold execOp
  simp only [ho, hx, Instr.loadAt, Instr.sureAddr, Sem.run_bind, Sem.run_pure, Result.andThen_ok, h]

set_option maxHeartbeats 2000000 in
set_option maxRecDepth 100000 in
theorem toHeap_any (m : Hp) (vl vr : Value) (w : World) (hv : HpIn w vl vr m) (h1 : m.cells.length ≤ 1048576) (h2 : m.roots.length ≤ 1048576) :
    Calls Tryd.prog 23 #[.agg #[.int .i64 m.old, vl, vr]] w fun e w' => (∃ b c, e = .returned (.agg (hpC b c m)) ∧ w.heap.size ≤ b ∧ w.heap.size ≤ c ∧ HpAt w' b c m) ∧ Below w.heap.size w w' := by
  obtain ⟨old, cells, roots⟩ := m
  obtain ⟨o1, c1, e1⟩ := hv.1.len
  obtain ⟨o2, c2, e2⟩ := hv.2.len
  simp only at e1 e2 h1 h2
  subst e1
  subst e2
  have hz := zero_hp.1
  have HV := hideT' hv
  -- the worlds ahead of the first call
  obtain ⟨W, hW⟩ : ∃ W, W = ((w.alloc (.cells #[.int .i64 old, .slice o1 cells.length c1, .slice o2 roots.length c2] 46)).alloc (.cells #[.int .i64 0, .slice none 0 0, .slice none 0 0] 50)).alloc (.cells #[.int .i64 old, .slice none 0 0, .slice none 0 0] 50) := ⟨_, rfl⟩
  have hWs : W.heap.size = w.heap.size + 3 := by rw [hW]; simp
  have hBW : Below w.heap.size w W := by rw [hW]; exact (((Below.refl _ _).alloc (Nat.le_refl _) _).alloc (by simp) _).alloc (by simp; omega) _
  have R0 : RowAt W w.heap.size 46 #[.int .i64 old, .slice o1 cells.length c1, .slice o2 roots.length c2] := by rw [hW]; exact RowAt.old (RowAt.old (RowAt.new w _ _) _) _
  have R1 : RowAt W (w.heap.size + 1) 50 #[.int .i64 0, .slice none 0 0, .slice none 0 0] := by
    have := RowAt.new (w.alloc (.cells #[.int .i64 old, .slice o1 cells.length c1, .slice o2 roots.length c2] 46)) 50 #[.int .i64 0, .slice none 0 0, .slice none 0 0]
    rw [World.size_alloc] at this
    rw [hW]; exact RowAt.old this _
  have R2 : RowAt W (w.heap.size + 1 + 1) 50 #[.int .i64 old, .slice none 0 0, .slice none 0 0] := by
    have := RowAt.new ((w.alloc (.cells #[.int .i64 old, .slice o1 cells.length c1, .slice o2 roots.length c2] 46)).alloc (.cells #[.int .i64 0, .slice none 0 0, .slice none 0 0] 50)) 50 #[.int .i64 old, .slice none 0 0, .slice none 0 0]
    rw [World.size_alloc, World.size_alloc] at this
    rw [hW]; exact this
  have HRS := hideT' (And.intro R0 (And.intro R1 R2))
  have HBW := hideT' hBW
  have HWE := hideT' hW
  clear hv hBW R0 R1 R2 hW
  go_enter Tryd.func23, Tryd.ntmps23
  go_wp2_with fail
  rw [← HWE.out]
  refine (toCellS_any cells _ W (HV.out.below HBW.out).1 h1).mono ?_
  rintro e wa ⟨⟨b, rfl, hb, hDb⟩, hBa⟩
  have hsa := hBa.size
  have r0 := RowAt.below HRS.out.1 hBa (by omega)
  have r1 := RowAt.below HRS.out.2.1 hBa (by omega)
  have r2 := RowAt.below HRS.out.2.2 hBa (by omega)
  have c02 : wa.cell? ⟨w.heap.size, 2, none⟩ = some (.slice o2 roots.length c2) := by rw [cell_of_row wa _ _ _ _ _ r0]; rfl
  have HRA := hideT' (And.intro r1 hDb)
  have hbl := hDb.lt
  have HBA := hideT' (HBW.out.trans (hBa.mono (by omega)))
  have HRR0 := hideT' r0
  clear r0 r1 hDb hBa
  go_wp2_with (refine store_at rfl 29 _ _ rfl rfl (w.heap.size + 1 + 1) 1 _ rfl rfl size_slcell rfl 50 _ r2 (show 1 < 3 by omega) ?_; intro wb rb hgb hsb; have c02b : wb.cell? ⟨w.heap.size, 2, none⟩ = some (.slice o2 roots.length c2) := (by rw [cell_of_row wb _ _ _ _ _ (RowAt.grown HRR0.out hgb (by intro e; injection e; omega))]; rfl))
  have hBb : Below w.heap.size w wb := HBA.out.grown hgb (by omega) (by intro k hk; cases hk; omega)
  have HRB : Hid (RowAt wb (w.heap.size + 1) 50 #[.int .i64 0, .slice none 0 0, .slice none 0 0] ∧ RowAt wb (w.heap.size + 1 + 1) 50 #[.int .i64 old, slR b cells, .slice none 0 0] ∧ RecAt wb b 99 cellL cells) :=
    ⟨RowAt.grown HRA.out.1 hgb (by intro e; injection e; omega), rb, RowAt.grown HRA.out.2 hgb (by intro e; injection e; omega)⟩
  clear c02 r2 rb hgb
  have HC2 := hideT' (toIntS_any roots (.slice o2 roots.length c2) wb (HV.out.below hBb).2 h2)
  go_wp2_with fail
  refine HC2.out.mono ?_
  rintro e wc ⟨⟨c, rfl, hc, hDc⟩, hBc⟩
  have hsc := hBc.size
  have hcl := hDc.lt
  have q2 := RowAt.below HRB.out.2.1 hBc (by omega)
  have HRC : Hid (RowAt wc (w.heap.size + 1) 50 #[.int .i64 0, .slice none 0 0, .slice none 0 0] ∧ RecAt wc b 99 cellL cells ∧ RecAt wc c 3 intL roots) := ⟨RowAt.below HRB.out.1 hBc (by omega), HRB.out.2.2.below hBc (by omega), hDc⟩
  have HBC := hideT' (hBb.trans (hBc.mono hBb.size))
  clear hDc hBc c02b
  go_wp2_with (first | (refine store_at rfl 23 _ _ rfl rfl (w.heap.size + 1 + 1) 2 _ rfl rfl size_ints rfl 50 _ q2 (show 2 < 3 by omega) ?_; intro wd rd hgd hsd; have rd' : RowAt wd (w.heap.size + 1 + 1) 50 #[.int .i64 old, slR b cells, slR c roots] := rd; have d0 : wd.cell? ⟨w.heap.size + 1 + 1, 0, none⟩ = some (.int .i64 old) := (by rw [cell_of_row wd _ _ _ _ _ rd']; rfl); have d1 : wd.cell? ⟨w.heap.size + 1 + 1, 1, none⟩ = some (slR b cells) := (by rw [cell_of_row wd _ _ _ _ _ rd']; rfl); have d2 : wd.cell? ⟨w.heap.size + 1 + 1, 2, none⟩ = some (slR c roots) := (by rw [cell_of_row wd _ _ _ _ _ rd']; rfl); have p1 := RowAt.grown HRC.out.1 hgd (by intro e; injection e; omega)) | (refine store_3 rfl 50 _ _ rfl rfl zero_hp.2 (w.heap.size + 1) (hpC b c ⟨old, cells, roots⟩) rfl (hp_one _ _ _ _ _ _ _) rfl rfl _ rfl p1 ?_; intro we hR9 hge hse))
  have hBd : Below w.heap.size w wd := HBC.out.grown hgd (by omega) (by intro k hk; cases hk; omega)
  have HRD : Hid (RecAt wd b 99 cellL cells ∧ RecAt wd c 3 intL roots) := ⟨RowAt.grown HRC.out.2.1 hgd (by intro e; injection e; omega), RowAt.grown HRC.out.2.2 hgd (by intro e; injection e; omega)⟩
  refine bodyPost_ret (v := .agg (hpC b c ⟨old, cells, roots⟩)) (results_cell_row Tryd.results23 _ _ (w.heap.size + 1) 50 (hpC b c ⟨old, cells, roots⟩) (0, 0) _ rfl hR9 Tryd.underlying50 rfl zero_hp.2) rfl ⟨⟨b, c, rfl, by omega, by omega, ?_, ?_⟩, ?_⟩
  · exact RowAt.grown HRD.out.1 hge (by intro e; injection e; omega)
  · exact RowAt.grown HRD.out.2 hge (by intro e; injection e; omega)
  · exact hBd.grown hge (by omega) (by intro k hk; cases hk; omega)

set_option maxHeartbeats 1000000 in
set_option maxRecDepth 100000 in
theorem eqHeap_in (m : Hp) (v1 v2 v1' v2' : Value) (w : World) (h1 : m.cells.length ≤ 1048576) (h2 : m.roots.length ≤ 1048576) (hM : HpRd w v1 v2 m) (hM' : HpRd w v1' v2' m) :
    Calls Tryd.prog 25 #[.agg #[.int .i64 m.old, v1, v2], .agg #[.int .i64 m.old, v1', v2']] w fun e w' => e = .returned (.bool true) ∧ Below w.heap.size w w' := by
  obtain ⟨old, cells, roots⟩ := m
  simp only at h1 h2
  obtain ⟨o1, c1, e1, _⟩ := hM.1
  obtain ⟨o2, c2, e2, _⟩ := hM.2
  obtain ⟨o3, c3, e3, _⟩ := hM'.1
  obtain ⟨o4, c4, e4, _⟩ := hM'.2
  simp only at e1 e2 e3 e4
  subst e1 e2 e3 e4
  have hB : Below w.heap.size w ((w.alloc (.cells #[.int .i64 old, .slice o1 cells.length c1, .slice o2 roots.length c2] 50)).alloc (.cells #[.int .i64 old, .slice o3 cells.length c3, .slice o4 roots.length c4] 50)) := ((Below.refl _ _).alloc (Nat.le_refl _) _).alloc (by simp) _
  have HM := hideT' (hM.below hB)
  have HM' := hideT' (hM'.below hB)
  clear hM hM'
  have hne : (old != old) = false := by simp
  go_enter Tryd.func25, Tryd.ntmps25
  go_wp2_with fail
  refine (eqCellS_in _ _ cells _ h1 HM.out.1 HM'.out.1).mono ?_
  rintro e w1 ⟨rfl, hB1⟩
  have hBw1 : Below w.heap.size w w1 := hB.trans (hB1.mono hB.size)
  have hs1 := hB1.size
  simp only [World.size_alloc] at hs1
  have e02 : w1.cell? ⟨w.heap.size, 2, none⟩ = some (.slice o2 roots.length c2) := by
    have hr := RowAt.below (RowAt.old (RowAt.new w 50 #[.int .i64 old, .slice o1 cells.length c1, .slice o2 roots.length c2]) (.cells #[.int .i64 old, .slice o3 cells.length c3, .slice o4 roots.length c4] 50)) hB1 (by simp; omega)
    rw [cell_of_row w1 _ _ _ _ _ hr]; rfl
  have e12 : w1.cell? ⟨w.heap.size + 1, 2, none⟩ = some (.slice o4 roots.length c4) := by
    have hn := RowAt.new (w.alloc (.cells #[.int .i64 old, .slice o1 cells.length c1, .slice o2 roots.length c2] 50)) 50 #[.int .i64 old, .slice o3 cells.length c3, .slice o4 roots.length c4]
    rw [World.size_alloc] at hn
    have hr := RowAt.below hn hB1 (by simp)
    rw [cell_of_row w1 _ _ _ _ _ hr]; rfl
  have HC2 := hideT' (eqIntS_in _ _ roots w1 h2 (HM.out.2.below hB1) (HM'.out.2.below hB1))
  go_wp2_with fail
  refine HC2.out.mono ?_
  rintro e w2 ⟨rfl, hB2⟩
  have hBw2 : Below w.heap.size w w2 := hBw1.trans (hB2.mono hBw1.size)
  go_wp2
  go_ret
  exact ⟨rfl, hBw2⟩

theorem lit_i64 {n : Int} (h : (Lit.int .i64 n).wf = true) : -9223372036854775808 ≤ n ∧ n ≤ 9223372036854775807 := by
  exact bounds_i64 h

set_option maxRecDepth 100000 in
theorem open_cell {H : Type} {enc : TypeId × Value → H} {W : World} (n : Nat) (cs : List Value) (x : DataW H × List MemPlace) (hl : cs.length = 4) (h : DataW.trod enc Tryd.prog W 0 (fun _ => true) true n 103 cs = some x) :
    ∃ d : Cl, cs = cellL d ∧ (-9223372036854775808 ≤ d.2.1 ∧ d.2.1 ≤ 9223372036854775807) := by
  obtain ⟨xs, m, _, _, _, hlen, hf⟩ := DataW.trod_struct Tryd.underlying103 h
  obtain ⟨a, b, c, e, rfl⟩ : ∃ a b c e, cs = [a, b, c, e] := by
    match cs, hl with
    | [a, b, c, e], _ => exact ⟨a, b, c, e, rfl⟩
  obtain ⟨y0, y1, y2, y3, rfl⟩ : ∃ y0 y1 y2 y3, xs = [y0, y1, y2, y3] := by
    match xs, hlen with
    | [y0, y1, y2, y3], _ => exact ⟨y0, y1, y2, y3, rfl⟩
  have g0 : DataW.trod enc Tryd.prog W 0 (fun _ => true) true m 4 (([a, b, c, e].drop 0).take (Tryd.prog.cellsOf 4)) = some y0 := by simpa using hf 0 _ rfl
  have g1 : DataW.trod enc Tryd.prog W 0 (fun _ => true) true m 3 (([a, b, c, e].drop 1).take (Tryd.prog.cellsOf 3)) = some y1 := by simpa using hf 1 _ rfl
  have g2 : DataW.trod enc Tryd.prog W 0 (fun _ => true) true m 3 (([a, b, c, e].drop 2).take (Tryd.prog.cellsOf 3)) = some y2 := by simpa using hf 2 _ rfl
  have g3 : DataW.trod enc Tryd.prog W 0 (fun _ => true) true m 3 (([a, b, c, e].drop 3).take (Tryd.prog.cellsOf 3)) = some y3 := by simpa using hf 3 _ rfl
  rw [cells_boolR] at g0
  rw [cells_intR] at g1 g2 g3
  obtain ⟨k0, e0, _⟩ := DataW.trod_bool Tryd.underlying4 g0
  obtain ⟨k1, e1, h1, h1'⟩ := DataW.trod_int Tryd.underlying3 g1
  obtain ⟨k2, e2, _, _⟩ := DataW.trod_int Tryd.underlying3 g2
  obtain ⟨k3, e3, _, _⟩ := DataW.trod_int Tryd.underlying3 g3
  simp at e0 e1 e2 e3
  exact ⟨(k0, k1, k2, k3), by rw [e0, e1, e2, e3]; rfl, by simpa using lit_i64 h1'⟩
theorem open_int1 {H : Type} {enc : TypeId × Value → H} {W : World} (n : Nat) (cs : List Value) (x : DataW H × List MemPlace) (hl : cs.length = 1) (h : DataW.trod enc Tryd.prog W 0 (fun _ => true) true n 3 cs = some x) :
    ∃ d : Int, cs = intL d ∧ True := by
  obtain ⟨s, e0, _, _⟩ := DataW.trod_int Tryd.underlying3 h
  exact ⟨s, e0, trivial⟩
theorem cells_lcell : Tryd.prog.cellsOf 103 = 4 := by kernel_rfl
theorem cells_slcR : Tryd.prog.cellsOf 22 = 1 := by kernel_rfl
theorem cells_sliR : Tryd.prog.cellsOf 23 = 1 := by kernel_rfl

set_option maxRecDepth 100000 in
/-- A heap as an argument. -/
theorem open_heap {H : Type} {enc : TypeId × Value → H} {W : World} {base : Nat} {v : Value} {d : DataW H} {ps : List MemPlace} (hval : Value.okWide Tryd.prog W .any base 46 v) (h : DataW.Trod enc Tryd.prog W 0 (fun _ => true) true 46 v d ps) :
    ∃ (m : Hp) (vl vr : Value), v = .agg #[.int .i64 m.old, vl, vr] ∧ HpIn W vl vr m ∧ HpSmall m maxLen ∧ ∀ i, i < m.cells.length → (-9223372036854775808 ≤ (m.cells.getD i default).2.1 ∧ (m.cells.getD i default).2.1 ≤ 9223372036854775807) := by
  obtain ⟨cs, rfl, hcs⟩ := okWide_struct Tryd.underlying46 hval
  have hc3 : Tryd.prog.cellsOf 46 = 3 := by kernel_rfl
  rw [hc3] at hcs
  obtain ⟨a, b, c, rfl⟩ : ∃ a b c, cs = #[a, b, c] := by
    obtain ⟨l⟩ := cs
    match l, hcs with
    | [a, b, c], _ => exact ⟨a, b, c, rfl⟩
  obtain ⟨fuel, hf⟩ := h
  obtain ⟨y0, y1, y2, m, _, _, h0, h1, h2⟩ := Deep.trod_struct3 Tryd.underlying46 hf
  have g0 : DataW.trod enc Tryd.prog W 0 (fun _ => true) true m 3 (([a, b, c].drop 0).take (Tryd.prog.cellsOf 3)) = some y0 := h0
  have g1 : DataW.trod enc Tryd.prog W 0 (fun _ => true) true m 22 (([a, b, c].drop 1).take (Tryd.prog.cellsOf 22)) = some y1 := h1
  have g2 : DataW.trod enc Tryd.prog W 0 (fun _ => true) true m 23 (([a, b, c].drop 2).take (Tryd.prog.cellsOf 23)) = some y2 := h2
  rw [cells_intR] at g0
  rw [cells_slcR] at g1
  rw [cells_sliR] at g2
  obtain ⟨s, e0, _, _⟩ := DataW.trod_int Tryd.underlying3 g0
  obtain ⟨vl, cells, e1, hL, q1, q1'⟩ := open_recs cellL 4 (by decide) cellL_len (fun d => -9223372036854775808 ≤ d.2.1 ∧ d.2.1 ≤ 9223372036854775807) Tryd.underlying22 cells_lcell open_cell g1
  obtain ⟨vr, roots, e2, hR, _, q2'⟩ := open_recs intL 1 (by decide) intL_len (fun _ => True) Tryd.underlying23 cells_intR open_int1 g2
  simp at e0 e1 e2
  subst e0
  subst e1
  subst e2
  exact ⟨⟨s, cells, roots⟩, _, _, rfl, ⟨hL, hR⟩, ⟨q1', q2'⟩, q1⟩
end Go.Proofs.YtelciainidklgaaDoor
