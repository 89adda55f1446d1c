/-
  Heaps whose cells change, as arguments: what the laws' own helpers over them say.
-/
import Derived.Test.YtelciainidklgaaDoorHeapLaw
namespace Go.Proofs.YtelciainidklgaaDoor
open Go.RowKit Go.ChangeShapes Go.WideShapes Go.ChangeAt
set_option linter.unusedVariables false

/-- A heap that is written: the heap, and what is noted. -/
structure Yg where
  h : Hp
  noted : List Int

def YgSmall (m : Yg) (n : Nat) : Prop := HpSmall m.h n ∧ m.noted.length ≤ n
/-- One that came in. -/
def YgIn (w : World) (vl vr vn : Value) (m : Yg) : Prop := HpIn w vl vr m.h ∧ SlR w vn intL 1 m.noted
theorem YgIn.below {w w' : World} {vl vr vn : Value} {m : Yg} (h : YgIn w vl vr vn m) (hB : Below w.heap.size w w') : YgIn w' vl vr vn m := ⟨h.1.below hB, h.2.below hB⟩
/-- Its own memory. -/
def YgAt (w : World) (b c d : Nat) (m : Yg) : Prop := HpAt w b c m.h ∧ RecAt w d 3 intL m.noted
theorem YgAt.below {w w' : World} {b c d B : Nat} {m : Yg} (h : YgAt w b c d m) (hB : Below B w w') (hb : b < B) (hc : c < B) (hd : d < B) : YgAt w' b c d m := ⟨h.1.below hB hb hc, h.2.below hB hd⟩
theorem YgAt.lt {w : World} {b c d : Nat} {m : Yg} (h : YgAt w b c d m) : b < w.heap.size ∧ c < w.heap.size ∧ d < w.heap.size := ⟨h.1.1.lt, h.1.2.lt, h.2.lt⟩
/-- One that can be read. -/
def YgRd (w : World) (vl vr vn : Value) (m : Yg) : Prop := HpRd w vl vr m.h ∧ InR w vn intL 1 m.noted
theorem YgRd.below {w w' : World} {vl vr vn : Value} {m : Yg} (h : YgRd w vl vr vn m) (hB : Below w.heap.size w w') : YgRd w' vl vr vn m := ⟨h.1.below hB, h.2.below hB⟩
theorem YgAt.rd {w : World} {b c d : Nat} {m : Yg} (h : YgAt w b c d m) : YgRd w (slR b m.h.cells) (slR c m.h.roots) (slR d m.noted) m := ⟨h.1.rd, h.2.inR intL_len⟩
/-- As a value. -/
abbrev ygC (b c d : Nat) (m : Yg) : Array Value := #[.int .i64 m.h.old, slR b m.h.cells, slR c m.h.roots, slR d m.noted]

set_option maxHeartbeats 1000000 in
set_option maxRecDepth 100000 in
theorem szYoung_any (m : Yg) (vl vr vn : Value) (w : World) (hv : YgIn w vl vr vn m) (hs : YgSmall m maxLen) :
    Calls Tryd.prog 9 #[.agg #[.int .i64 m.h.old, vl, vr, vn], .int .i64 1048576] w fun e w' => (∃ r : Int, e = .returned (.int .i64 r) ∧ (r = -1 ∨ (0 ≤ r ∧ YgSmall m 1048576))) ∧ Below w.heap.size w w' := by
  obtain ⟨⟨old, cells, roots⟩, noted⟩ := m
  obtain ⟨⟨s2, s3⟩, s4⟩ := hs
  obtain ⟨o1, c1, e1⟩ := hv.1.1.len
  obtain ⟨o2, c2, e2⟩ := hv.1.2.len
  obtain ⟨o3, c3, e3⟩ := hv.2.len
  simp only at s2 s3 s4 e1 e2 e3
  subst e1 e2 e3
  have HV := hideT' hv
  have HS := hideT' (And.intro s2 (And.intro s3 s4))
  have hB : Below w.heap.size w (w.alloc (.cells #[.int .i64 old, .slice o1 cells.length c1, .slice o2 roots.length c2, .slice o3 noted.length c3] 25)) := (Below.refl _ _).alloc (Nat.le_refl _) _
  have HVB := hideT' (HV.out.below hB)
  clear hv s2 s3 s4
  go_enter Tryd.func9, Tryd.ntmps9
  go_wp2_with fail
  refine (szCellS_any cells _ 1048576 _ HVB.out.1.1 (by omega) (by omega) HS.out.1).mono ?_
  rintro e w1 ⟨⟨r, rfl, hr⟩, rfl⟩
  rcases hr with rfl | ⟨hr0, hr1, hr2⟩
  · go_wp2
    go_ret
    exact ⟨⟨-1, rfl, .inl rfl⟩, hB⟩
  · have hrn : ¬ r < 0 := by omega
    go_wp2_with fail
    refine (szIntS_any roots _ r _ HVB.out.1.2 (by omega) (by omega) HS.out.2.1).mono ?_
    rintro e w2 ⟨⟨q, rfl, hq⟩, rfl⟩
    rcases hq with rfl | ⟨hq0, hq1, hq2⟩
    · go_wp2
      go_ret
      exact ⟨⟨-1, rfl, .inl rfl⟩, hB⟩
    · have hqn : ¬ q < 0 := by omega
      go_wp2_with fail
      refine (szIntS_any noted _ q _ HVB.out.2 (by omega) (by omega) HS.out.2.2).mono ?_
      rintro e w3 ⟨⟨p, rfl, hp⟩, rfl⟩
      rcases hp with rfl | ⟨hp0, hp1, hp2⟩
      · go_wp2
        go_ret
        exact ⟨⟨-1, rfl, .inl rfl⟩, hB⟩
      · have hpn : ¬ p < 0 := by omega
        have HSM : Hid (YgSmall ⟨⟨old, cells, roots⟩, noted⟩ 1048576) := ⟨⟨by show cells.length ≤ 1048576; omega, by show roots.length ≤ 1048576; omega⟩, by show noted.length ≤ 1048576; omega⟩
        go_wp2
        go_ret
        exact ⟨⟨p, rfl, .inr ⟨hp0, HSM.out⟩⟩, hB⟩

theorem yg_one (old : Int) (o : Option Addr) (n c : Nat) (o' : Option Addr) (n' c' : Nat) (o'' : Option Addr) (n'' c'' : Nat) : (#[Value.int .i64 old, .slice o n c, .slice o' n' c', .slice o'' n'' c''] : Array Value).all (·.oneCell') = true := by
  rw [Array.all_eq_true_iff_forall_mem]
  intro v hv
  simp at hv
  rcases hv with rfl | rfl | rfl | rfl <;> rfl
theorem zero_yg : (∀ w, (zeroValue 31).run Tryd.prog w = .ok (.agg #[.int .i64 0, .slice none 0 0, .slice none 0 0, .slice none 0 0]) w) ∧ (Tryd.prog.info? 31).map (·.size) = some 4 := zero_of_info (by kernel_rfl)
theorem size_lyg : (Tryd.prog.info? 25).map (·.size) = some 4 := by kernel_rfl
/-- Four cells are written whole. -/
theorem store_4 {ops : Array Oper} {rest : List Oper} {o : Oper} {a : Act} {w : World} {Q : Exit → Act → World → Prop} (hgd : o.guard = none) (T : TypeId) (x y : Operand) (ho : o.op = .store T x y) (hd : o.dst = none) (hs4 : (Tryd.prog.info? T).map (·.size) = some 4)
    (b : Nat) (cs : Array Value) (h4 : cs.size = 4) (hone : cs.all (·.oneCell') = true) (hx : a.eval x = .pointer (some ⟨b, 0, none⟩)) (hy : a.eval y = .agg cs) (c0 : Array Value) (h0 : c0.size = 4) (hN : RowAt w b T c0)
    (h : ∀ w', RowAt w' b T cs → w.grownBy w' (some b) → w'.heap.size = w.heap.size → wpList Tryd.prog ops Q rest a w') : wpList Tryd.prog ops Q (o :: rest) a w := by
  refine wpList_store_row hgd T x y ho b cs hx hy T c0 hN (by rw [hs4, h4]) (by rw [h0, h4]) hone ?_
  rw [hd]
  exact h _ (setRow_heap w b _ _ _ _ hN) ⟨rfl, rfl, rfl, by simp, fun k _ hne => setRow_other w b k _ (by intro e; exact hne (by rw [e]))⟩ (by simp)

set_option maxHeartbeats 4000000 in
set_option maxRecDepth 100000 in
theorem toYoung_any (m : Yg) (vl vr vn : Value) (w : World) (hv : YgIn w vl vr vn m) (hsm : YgSmall m 1048576) :
    Calls Tryd.prog 11 #[.agg #[.int .i64 m.h.old, vl, vr, vn]] w fun e w' => (∃ b c d, e = .returned (.agg (ygC b c d m)) ∧ w.heap.size ≤ b ∧ w.heap.size ≤ c ∧ w.heap.size ≤ d ∧ c ≠ d ∧ YgAt w' b c d m) ∧ Below w.heap.size w w' := by
  obtain ⟨⟨old, cells, roots⟩, noted⟩ := m
  obtain ⟨⟨h1, h2⟩, h3⟩ := hsm
  obtain ⟨o1, c1, e1⟩ := hv.1.1.len
  obtain ⟨o2, c2, e2⟩ := hv.1.2.len
  obtain ⟨o3, c3, e3⟩ := hv.2.len
  simp only at e1 e2 e3 h1 h2 h3
  subst e1 e2 e3
  have hz := zero_yg.1
  have HV := hideT' hv
  -- the worlds ahead of the first call
  obtain ⟨W, hW⟩ : ∃ W, W = ((w.alloc (.cells #[.int .i64 old, .slice o1 cells.length c1, .slice o2 roots.length c2, .slice o3 noted.length c3] 25)).alloc (.cells #[.int .i64 0, .slice none 0 0, .slice none 0 0, .slice none 0 0] 31)).alloc (.cells #[.int .i64 old, .slice none 0 0, .slice none 0 0, .slice none 0 0] 31) := ⟨_, rfl⟩
  have hWs : W.heap.size = w.heap.size + 3 := by rw [hW]; simp
  have hBW : Below w.heap.size w W := by rw [hW]; exact (((Below.refl _ _).alloc (Nat.le_refl _) _).alloc (by simp) _).alloc (by simp; omega) _
  have R0 : RowAt W w.heap.size 25 #[.int .i64 old, .slice o1 cells.length c1, .slice o2 roots.length c2, .slice o3 noted.length c3] := by rw [hW]; exact RowAt.old (RowAt.old (RowAt.new w _ _) _) _
  have R1 : RowAt W (w.heap.size + 1) 31 #[.int .i64 0, .slice none 0 0, .slice none 0 0, .slice none 0 0] := by
    have := RowAt.new (w.alloc (.cells #[.int .i64 old, .slice o1 cells.length c1, .slice o2 roots.length c2, .slice o3 noted.length c3] 25)) 31 #[.int .i64 0, .slice none 0 0, .slice none 0 0, .slice none 0 0]
    rw [World.size_alloc] at this
    rw [hW]; exact RowAt.old this _
  have R2 : RowAt W (w.heap.size + 1 + 1) 31 #[.int .i64 old, .slice none 0 0, .slice none 0 0, .slice none 0 0] := by
    have := RowAt.new ((w.alloc (.cells #[.int .i64 old, .slice o1 cells.length c1, .slice o2 roots.length c2, .slice o3 noted.length c3] 25)).alloc (.cells #[.int .i64 0, .slice none 0 0, .slice none 0 0, .slice none 0 0] 31)) 31 #[.int .i64 old, .slice none 0 0, .slice none 0 0, .slice none 0 0]
    rw [World.size_alloc, World.size_alloc] at this
    rw [hW]; exact this
  have HRS := hideT' (And.intro R0 (And.intro R1 R2))
  have HBW := hideT' hBW
  have HWE := hideT' hW
  clear hv hBW R0 R1 R2 hW
  go_enter Tryd.func11, Tryd.ntmps11
  go_wp2_with fail
  rw [← HWE.out]
  refine (toCellS_any cells _ W (HV.out.below HBW.out).1.1 h1).mono ?_
  rintro e wa ⟨⟨b, rfl, hb, hDb⟩, hBa⟩
  have hsa := hBa.size
  have r0 := RowAt.below HRS.out.1 hBa (by omega)
  have r1 := RowAt.below HRS.out.2.1 hBa (by omega)
  have r2 := RowAt.below HRS.out.2.2 hBa (by omega)
  have c02 : wa.cell? ⟨w.heap.size, 2, none⟩ = some (.slice o2 roots.length c2) := by rw [cell_of_row wa _ _ _ _ _ r0]; rfl
  have HRA := hideT' (And.intro r0 (And.intro r1 hDb))
  have hbl := hDb.lt
  have HBA := hideT' (HBW.out.trans (hBa.mono (by omega)))
  clear r0 r1 hDb hBa
  go_wp2_with (refine store_at rfl 29 _ _ rfl rfl (w.heap.size + 1 + 1) 1 _ rfl rfl size_slcell rfl 31 _ r2 (show 1 < 4 by omega) ?_; intro wb rb hgb hsb; have c02b : wb.cell? ⟨w.heap.size, 2, none⟩ = some (.slice o2 roots.length c2) := (by rw [cell_of_row wb _ _ _ _ _ (RowAt.grown HRA.out.1 hgb (by intro e; injection e; omega))]; rfl))
  have hBb : Below w.heap.size w wb := HBA.out.grown hgb (by omega) (by intro k hk; cases hk; omega)
  have HRB : Hid (RowAt wb w.heap.size 25 #[.int .i64 old, .slice o1 cells.length c1, .slice o2 roots.length c2, .slice o3 noted.length c3] ∧ RowAt wb (w.heap.size + 1) 31 #[.int .i64 0, .slice none 0 0, .slice none 0 0, .slice none 0 0] ∧ RowAt wb (w.heap.size + 1 + 1) 31 #[.int .i64 old, slR b cells, .slice none 0 0, .slice none 0 0] ∧ RecAt wb b 99 cellL cells) :=
    ⟨RowAt.grown HRA.out.1 hgb (by intro e; injection e; omega), RowAt.grown HRA.out.2.1 hgb (by intro e; injection e; omega), rb, RowAt.grown HRA.out.2.2 hgb (by intro e; injection e; omega)⟩
  clear c02 r2 rb hgb
  have HC2 := hideT' (toIntS_any roots (.slice o2 roots.length c2) wb (HV.out.below hBb).1.2 h2)
  have HBB := hideT' hBb
  clear hBb
  go_wp2_with fail
  refine HC2.out.mono ?_
  rintro e wc ⟨⟨c, rfl, hc, hDc⟩, hBc⟩
  have hsc := hBc.size
  have hcl := hDc.lt
  have q0 := RowAt.below HRB.out.1 hBc (by omega)
  have q2 := RowAt.below HRB.out.2.2.1 hBc (by omega)
  have c03 : wc.cell? ⟨w.heap.size, 3, none⟩ = some (.slice o3 noted.length c3) := by rw [cell_of_row wc _ _ _ _ _ q0]; rfl
  have HRC : Hid (RowAt wc w.heap.size 25 #[.int .i64 old, .slice o1 cells.length c1, .slice o2 roots.length c2, .slice o3 noted.length c3] ∧ RowAt wc (w.heap.size + 1) 31 #[.int .i64 0, .slice none 0 0, .slice none 0 0, .slice none 0 0] ∧ RecAt wc b 99 cellL cells ∧ RecAt wc c 3 intL roots) := ⟨q0, RowAt.below HRB.out.2.1 hBc (by omega), HRB.out.2.2.2.below hBc (by omega), hDc⟩
  have HBC := hideT' (HBB.out.trans (hBc.mono HBB.out.size))
  clear hDc hBc c02b q0
  go_wp2_with (refine store_at rfl 23 _ _ rfl rfl (w.heap.size + 1 + 1) 2 _ rfl rfl size_ints rfl 31 _ q2 (show 2 < 4 by omega) ?_; intro wd rd hgd hsd; have c03d : wd.cell? ⟨w.heap.size, 3, none⟩ = some (.slice o3 noted.length c3) := (by rw [cell_of_row wd _ _ _ _ _ (RowAt.grown HRC.out.1 hgd (by intro e; injection e; omega))]; rfl))
  have hBd : Below w.heap.size w wd := HBC.out.grown hgd (by omega) (by intro k hk; cases hk; omega)
  have HRD : Hid (RowAt wd (w.heap.size + 1) 31 #[.int .i64 0, .slice none 0 0, .slice none 0 0, .slice none 0 0] ∧ RowAt wd (w.heap.size + 1 + 1) 31 #[.int .i64 old, slR b cells, slR c roots, .slice none 0 0] ∧ RecAt wd b 99 cellL cells ∧ RecAt wd c 3 intL roots) :=
    ⟨RowAt.grown HRC.out.2.1 hgd (by intro e; injection e; omega), rd, RowAt.grown HRC.out.2.2.1 hgd (by intro e; injection e; omega), RowAt.grown HRC.out.2.2.2 hgd (by intro e; injection e; omega)⟩
  clear c03 q2 rd hgd
  have HC3 := hideT' (toIntS_any noted (.slice o3 noted.length c3) wd (HV.out.below hBd).2 h3)
  have HBD := hideT' hBd
  clear hBd
  go_wp2_with fail
  refine HC3.out.mono ?_
  rintro e we ⟨⟨d, rfl, hd, hDd⟩, hBe⟩
  have hse := hBe.size
  have hdl := hDd.lt
  have t2 := RowAt.below HRD.out.2.1 hBe (by omega)
  have HRE : Hid (RowAt we (w.heap.size + 1) 31 #[.int .i64 0, .slice none 0 0, .slice none 0 0, .slice none 0 0] ∧ RecAt we b 99 cellL cells ∧ RecAt we c 3 intL roots ∧ RecAt we d 3 intL noted) := ⟨RowAt.below HRD.out.1 hBe (by omega), HRD.out.2.2.1.below hBe (by omega), HRD.out.2.2.2.below hBe (by omega), hDd⟩
  have HBE := hideT' (HBD.out.trans (hBe.mono HBD.out.size))
  clear hDd hBe c03d
  go_wp2_with (first | (refine store_at rfl 23 _ _ rfl rfl (w.heap.size + 1 + 1) 3 _ rfl rfl size_ints rfl 31 _ t2 (show 3 < 4 by omega) ?_; intro wf rf hgf hsf; have rf' : RowAt wf (w.heap.size + 1 + 1) 31 #[.int .i64 old, slR b cells, slR c roots, slR d noted] := rf; have d0 : wf.cell? ⟨w.heap.size + 1 + 1, 0, none⟩ = some (.int .i64 old) := (by rw [cell_of_row wf _ _ _ _ _ rf']; rfl); have d1 : wf.cell? ⟨w.heap.size + 1 + 1, 1, none⟩ = some (slR b cells) := (by rw [cell_of_row wf _ _ _ _ _ rf']; rfl); have d2 : wf.cell? ⟨w.heap.size + 1 + 1, 2, none⟩ = some (slR c roots) := (by rw [cell_of_row wf _ _ _ _ _ rf']; rfl); have d3 : wf.cell? ⟨w.heap.size + 1 + 1, 3, none⟩ = some (slR d noted) := (by rw [cell_of_row wf _ _ _ _ _ rf']; rfl); have p1 := RowAt.grown HRE.out.1 hgf (by intro e; injection e; omega)) | (refine store_4 rfl 31 _ _ rfl rfl zero_yg.2 (w.heap.size + 1) (ygC b c d ⟨⟨old, cells, roots⟩, noted⟩) rfl (yg_one _ _ _ _ _ _ _ _ _ _) rfl rfl _ rfl p1 ?_; intro wg hR9 hgg hsg))
  have hBf : Below w.heap.size w wf := HBE.out.grown hgf (by omega) (by intro k hk; cases hk; omega)
  have HRF : Hid (RecAt wf b 99 cellL cells ∧ RecAt wf c 3 intL roots ∧ RecAt wf d 3 intL noted) := ⟨RowAt.grown HRE.out.2.1 hgf (by intro e; injection e; omega), RowAt.grown HRE.out.2.2.1 hgf (by intro e; injection e; omega), RowAt.grown HRE.out.2.2.2 hgf (by intro e; injection e; omega)⟩
  refine bodyPost_ret (v := .agg (ygC b c d ⟨⟨old, cells, roots⟩, noted⟩)) (results_cell_row Tryd.results11 _ _ (w.heap.size + 1) 31 (ygC b c d ⟨⟨old, cells, roots⟩, noted⟩) (0, 0) _ rfl hR9 Tryd.underlying31 rfl zero_yg.2) rfl ⟨⟨b, c, d, rfl, by omega, by omega, by omega, by omega, ⟨?_, ?_⟩, ?_⟩, ?_⟩
  · exact RowAt.grown HRF.out.1 hgg (by intro e; injection e; omega)
  · exact RowAt.grown HRF.out.2.1 hgg (by intro e; injection e; omega)
  · exact RowAt.grown HRF.out.2.2 hgg (by intro e; injection e; omega)
  · exact hBf.grown hgg (by omega) (by intro k hk; cases hk; omega)

set_option maxHeartbeats 1000000 in
set_option maxRecDepth 100000 in
theorem eqYoung_in (m : Yg) (v1 v2 v3 v1' v2' v3' : Value) (w : World) (hs : YgSmall m 1048576) (hM : YgRd w v1 v2 v3 m) (hM' : YgRd w v1' v2' v3' m) :
    Calls Tryd.prog 13 #[.agg #[.int .i64 m.h.old, v1, v2, v3], .agg #[.int .i64 m.h.old, v1', v2', v3']] w fun e w' => e = .returned (.bool true) ∧ Below w.heap.size w w' := by
  obtain ⟨⟨old, cells, roots⟩, noted⟩ := m
  obtain ⟨⟨h1, h2⟩, h3⟩ := hs
  simp only at h1 h2 h3
  obtain ⟨o1, c1, e1, _⟩ := hM.1.1
  obtain ⟨o2, c2, e2, _⟩ := hM.1.2
  obtain ⟨o5, c5, e5, _⟩ := hM.2
  obtain ⟨o3, c3, e3, _⟩ := hM'.1.1
  obtain ⟨o4, c4, e4, _⟩ := hM'.1.2
  obtain ⟨o6, c6, e6, _⟩ := hM'.2
  simp only at e1 e2 e3 e4 e5 e6
  subst e1 e2 e3 e4 e5 e6
  have hB : Below w.heap.size w ((w.alloc (.cells #[.int .i64 old, .slice o1 cells.length c1, .slice o2 roots.length c2, .slice o5 noted.length c5] 31)).alloc (.cells #[.int .i64 old, .slice o3 cells.length c3, .slice o4 roots.length c4, .slice o6 noted.length c6] 31)) := ((Below.refl _ _).alloc (Nat.le_refl _) _).alloc (by simp) _
  have HM := hideT' (hM.below hB)
  have HM' := hideT' (hM'.below hB)
  clear hM hM'
  have hne : (old != old) = false := by simp
  have HF : Hid (∀ w', Below w.heap.size w w' → Below (w.heap.size + 2) ((w.alloc (.cells #[.int .i64 old, .slice o1 cells.length c1, .slice o2 roots.length c2, .slice o5 noted.length c5] 31)).alloc (.cells #[.int .i64 old, .slice o3 cells.length c3, .slice o4 roots.length c4, .slice o6 noted.length c6] 31)) w' → (w'.cell? ⟨w.heap.size, 2, none⟩ = some (.slice o2 roots.length c2) ∧ w'.cell? ⟨w.heap.size, 3, none⟩ = some (.slice o5 noted.length c5)) ∧ (w'.cell? ⟨w.heap.size + 1, 2, none⟩ = some (.slice o4 roots.length c4) ∧ w'.cell? ⟨w.heap.size + 1, 3, none⟩ = some (.slice o6 noted.length c6))) := by
    intro w' _ h
    have hr := RowAt.below (RowAt.old (RowAt.new w 31 #[.int .i64 old, .slice o1 cells.length c1, .slice o2 roots.length c2, .slice o5 noted.length c5]) (.cells #[.int .i64 old, .slice o3 cells.length c3, .slice o4 roots.length c4, .slice o6 noted.length c6] 31)) h (by omega)
    have hn := RowAt.new (w.alloc (.cells #[.int .i64 old, .slice o1 cells.length c1, .slice o2 roots.length c2, .slice o5 noted.length c5] 31)) 31 #[.int .i64 old, .slice o3 cells.length c3, .slice o4 roots.length c4, .slice o6 noted.length c6]
    rw [World.size_alloc] at hn
    have hr2 := RowAt.below hn h (by omega)
    refine ⟨⟨?_, ?_⟩, ?_, ?_⟩
    · rw [cell_of_row w' _ _ _ _ _ hr]; rfl
    · rw [cell_of_row w' _ _ _ _ _ hr]; rfl
    · rw [cell_of_row w' _ _ _ _ _ hr2]; rfl
    · rw [cell_of_row w' _ _ _ _ _ hr2]; rfl
  go_enter Tryd.func13, Tryd.ntmps13
  go_wp2_with fail
  refine (eqCellS_in _ _ cells _ h1 HM.out.1.1 HM'.out.1.1).mono ?_
  rintro e w1 ⟨rfl, hB1⟩
  have hBw1 : Below w.heap.size w w1 := hB.trans (hB1.mono hB.size)
  have hB1n := hB1.mono (show w.heap.size + 2 ≤ _ by simp)
  obtain ⟨⟨a2, a3⟩, b2, b3⟩ := HF.out w1 hBw1 hB1n
  have HC2 := hideT' (eqIntS_in _ _ roots w1 h2 (HM.out.1.2.below hB1) (HM'.out.1.2.below hB1))
  have HMN := hideT' (And.intro (HM.out.2.below hB1) (HM'.out.2.below hB1))
  have HB1 := hideT' (And.intro hBw1 hB1n)
  clear hBw1 hB1n hB1
  go_wp2_with fail
  refine HC2.out.mono ?_
  rintro e w2 ⟨rfl, hB2⟩
  have hBw2 : Below w.heap.size w w2 := HB1.out.1.trans (hB2.mono HB1.out.1.size)
  have hs1 := HB1.out.2.size
  simp only [World.size_alloc] at hs1
  have hB2n := HB1.out.2.trans (hB2.mono (by omega))
  clear a2 a3 b2 b3
  obtain ⟨⟨a2, a3⟩, b2, b3⟩ := HF.out w2 hBw2 hB2n
  have HC3 := hideT' (eqIntS_in _ _ noted w2 h3 (HMN.out.1.below hB2) (HMN.out.2.below hB2))
  have HB2 := hideT' hBw2
  clear hBw2 hB2n hB2
  go_wp2_with fail
  refine HC3.out.mono ?_
  rintro e w3 ⟨rfl, hB3⟩
  have hBw3 : Below w.heap.size w w3 := HB2.out.trans (hB3.mono HB2.out.size)
  go_wp2
  go_ret
  exact ⟨rfl, hBw3⟩

set_option maxRecDepth 100000 in
/-- One as an argument. -/
theorem open_young {H : Type} {enc : TypeId × Value → H} {W : World} {base : Nat} {v : Value} {d : DataW H} {ps : List MemPlace} (hval : Value.okWide Tryd.prog W .any base 25 v) (h : DataW.Trod enc Tryd.prog W 0 (fun _ => true) true 25 v d ps) :
    ∃ (m : Yg) (vl vr vn : Value), v = .agg #[.int .i64 m.h.old, vl, vr, vn] ∧ YgIn W vl vr vn m ∧ YgSmall m maxLen ∧ ∀ i, i < m.h.cells.length → (-9223372036854775808 ≤ (m.h.cells.getD i default).2.1 ∧ (m.h.cells.getD i default).2.1 ≤ 9223372036854775807) := by
  obtain ⟨cs, rfl, hcs⟩ := okWide_struct Tryd.underlying25 hval
  have hc4 : Tryd.prog.cellsOf 25 = 4 := by kernel_rfl
  rw [hc4] at hcs
  obtain ⟨a, b, c, e, rfl⟩ : ∃ a b c e, cs = #[a, b, c, e] := by
    obtain ⟨l⟩ := cs
    match l, hcs with
    | [a, b, c, e], _ => exact ⟨a, b, c, e, rfl⟩
  obtain ⟨fuel, hf⟩ := h
  obtain ⟨xs, m, _, _, _, hlen, hff⟩ := DataW.trod_struct Tryd.underlying25 hf
  obtain ⟨y0, y1, y2, y3, rfl⟩ : ∃ y0 y1 y2 y3, xs = [y0, y1, y2, y3] := by
    match xs, hlen with
    | [y0, y1, y2, y3], _ => exact ⟨y0, y1, y2, y3, rfl⟩
  have g0 : DataW.trod enc Tryd.prog W 0 (fun _ => true) true m 3 (([a, b, c, e].drop 0).take (Tryd.prog.cellsOf 3)) = some y0 := hff 0 _ rfl
  have g1 : DataW.trod enc Tryd.prog W 0 (fun _ => true) true m 22 (([a, b, c, e].drop 1).take (Tryd.prog.cellsOf 22)) = some y1 := hff 1 _ rfl
  have g2 : DataW.trod enc Tryd.prog W 0 (fun _ => true) true m 23 (([a, b, c, e].drop 2).take (Tryd.prog.cellsOf 23)) = some y2 := hff 2 _ rfl
  have g3 : DataW.trod enc Tryd.prog W 0 (fun _ => true) true m 23 (([a, b, c, e].drop 3).take (Tryd.prog.cellsOf 23)) = some y3 := hff 3 _ rfl
  rw [cells_intR] at g0
  rw [cells_slcR] at g1
  rw [cells_sliR] at g2 g3
  obtain ⟨s, e0, _, _⟩ := DataW.trod_int Tryd.underlying3 g0
  obtain ⟨vl, cells, e1, hL, q1, q1'⟩ := open_recs cellL 4 (by decide) cellL_len (fun d => -9223372036854775808 ≤ d.2.1 ∧ d.2.1 ≤ 9223372036854775807) Tryd.underlying22 cells_lcell open_cell g1
  obtain ⟨vr, roots, e2, hR, _, q2'⟩ := open_recs intL 1 (by decide) intL_len (fun _ => True) Tryd.underlying23 cells_intR open_int1 g2
  obtain ⟨vn, noted, e3, hN, _, q3'⟩ := open_recs intL 1 (by decide) intL_len (fun _ => True) Tryd.underlying23 cells_intR open_int1 g3
  simp at e0 e1 e2 e3
  subst e0 e1 e2 e3
  exact ⟨⟨⟨s, cells, roots⟩, noted⟩, _, _, _, rfl, ⟨⟨hL, hR⟩, hN⟩, ⟨⟨q1', q2'⟩, q3'⟩, q1⟩
end Go.Proofs.YtelciainidklgaaDoor
