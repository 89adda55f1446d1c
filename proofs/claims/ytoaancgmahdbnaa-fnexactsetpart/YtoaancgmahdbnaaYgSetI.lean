/-
  What impl.SetPart answers.
-/
import Derived.Test.YtoaancgmahdbnaaYgSetM
namespace Go.Proofs.Ytoaancgmahdbnaa
open Go.RowKit Go.Shelf BL
set_option linter.unusedVariables false
attribute [local go_sem] Oper.semAt_some

theorem wrL_set (old : Int) (v1 v2 : Value) (nm : List Bool) (i : Nat) (x : Bool) : (wrL old v1 v2 nm).toArray.setIfInBounds (3 + i) (.bool x) = (wrL old v1 v2 (nm.set i x)).toArray := by
  have e1 : ∀ l : List Bool, l.flatMap boolL = l.map Value.bool := fun l => by
    induction l with
    | nil => rfl
    | cons a l ih => rw [List.flatMap_cons, ih, List.map_cons]; rfl
  apply Array.ext'
  rw [Array.toList_setIfInBounds]
  show (Value.int .i64 old :: v1 :: v2 :: nm.flatMap boolL).set (3 + i) (.bool x) = Value.int .i64 old :: v1 :: v2 :: (nm.set i x).flatMap boolL
  rw [show 3 + i = i + 1 + 1 + 1 by omega, List.set_cons_succ, List.set_cons_succ, List.set_cons_succ, e1, e1, List.map_set]
theorem own_ne {w : World} {B n s b : Nat} {T T' : TypeId} {v : Value} {xs : List Value} {cs : Array Value} (hT : T ≠ T') (h : w.ownsRow B T s v n xs) (hR : RowAt w b T' cs) : v.ownBlock ≠ some b := fun e => by
  rcases h.2 with ⟨e1, _⟩ | ⟨g, cap, cur, e1, _, h3, _⟩
  · rw [e1] at e; cases e
  · rw [e1] at e
    have e2 : g = b := by simp only [Value.ownBlock] at e; injection e
    rw [e2, show w.heap[b]? = _ from hR] at h3
    injection h3 with h3
    injection h3 with _ h3 _
    exact hT h3.symm
theorem store_ownc {ops : Array Oper} {rest : List Oper} {op : Oper} {a : Act} {w : World} {Q : Exit → Act → World → Prop} (hgd : op.guard = none) (ty : TypeId) (x y : Operand) (ho : op.op = .store ty x y) (hd : op.dst = none)
    (b o : Nat) (v : Value) (hx : a.eval x = .pointer (some ⟨b, o, none⟩)) (hy : a.eval y = v) (hi : (Try.prog.info? ty).map (·.size) = some 1) (h1 : v.oneCell' = true) {B : Nat} {T : TypeId} {c n cap : Nat} {xs : List Value} (hown : w.ownsRow B T c (.slice (some ⟨b, 0, none⟩) n cap) n xs) (hon : o < n * c)
    (h : ∀ w', w'.ownsRow B T c (.slice (some ⟨b, 0, none⟩) n cap) n (xs.set o v) → w.grownBy w' (some b) → w'.heap.size = w.heap.size → wpList Try.prog ops Q rest a w') : wpList Try.prog ops Q (op :: rest) a w :=
  wpList_plain hgd fun _ hK => own_cell_wp ty x y ho hd b o v hx hy hi h1 hown hon (fun w' h2 h3 h4 => hK _ _ (h w' h2 h3 h4))

set_option maxRecDepth 100000 in
set_option maxHeartbeats 4000000 in
theorem canSet_any (h : Hp) (nm : List Bool) (hl : h.cells.length ≤ 200) (B hb : Nat) (v1 v2 : Value) (a b : Int) (w : World) (hW : WrAt w B hb v1 v2 h nm) :
    Calls Try.prog 65 #[.pointer (some ⟨hb, 0, none⟩), .int .i64 a, .int .i64 b] w fun e w' => e = .returned (.bool (canS h a b)) ∧ w' = w := by
  obtain ⟨hR, hO1, hO2, hBh⟩ := hW
  obtain ⟨o1, c1, e1⟩ := own_formX hO1
  subst e1
  have hin := OwnR.inR (l := h.cells) hO1 cellL_len
  have hc1 : w.cell? ⟨hb, 1, none⟩ = some (.slice o1 h.cells.length c1) := by rw [cell_of_row _ _ _ _ _ _ hR]; rfl
  have HA := hideT' (hasCell_any hb o1 h.cells.length c1 a w hc1 (by omega))
  have HB := hideT' (hasCell_any hb o1 h.cells.length c1 b w hc1 (by omega))
  obtain ⟨n, hn⟩ : ∃ n, n = h.cells.length := ⟨_, rfl⟩
  have HCS : Hid (canS h a b = (rootOk n a && (rootOk n b && !(h.cells.getD a.toNat default).1))) := by unfold Hid canS; rw [hn]
  rw [← hn] at HA HB hc1 hl hin
  have HN := hideT' hn
  obtain ⟨qa, hqa⟩ : ∃ q, q = rootOk n a := ⟨_, rfl⟩
  obtain ⟨qb, hqb⟩ : ∃ q, q = rootOk n b := ⟨_, rfl⟩
  rw [← hqa] at HA HCS
  rw [← hqb] at HB HCS
  have HQA := hideT' hqa
  clear hR hO1 hO2 hn hqa hqb
  go_enter Try.func65, Try.ntmps65
  go_wp2_with fail
  refine HA.out.mono ?_
  rintro e w' ⟨rfl, rfl⟩
  cases qa with
  | false =>
    have HF : Hid (canS h a b = false) := HCS.out
    clear hin
    go_wp2
    go_ret
    exact ⟨by rw [HF.out]; rfl, rfl⟩
  | true =>
  have hak : ∃ k : Nat, a = (k : Int) ∧ k < n := by
    have := HQA.out.symm
    unfold rootOk at this
    rw [Bool.and_eq_true, decide_eq_true_eq, decide_eq_true_eq] at this
    exact ⟨a.toNat, by omega, by omega⟩
  obtain ⟨k, rfl, hkn⟩ := hak
  have hkn' : (k : Int) < (n : Int) := by omega
  obtain ⟨d, hd⟩ : ∃ d, d = h.cells.getD k default := ⟨_, rfl⟩
  have hM1 : InR w' (.slice o1 h.cells.length c1) cellL 4 h.cells := by rw [← HN.out]; exact hin
  obtain ⟨lf, kk, aa, cc⟩ := d
  obtain ⟨g1, hgo, q0, q1, q2, q3⟩ := hM1.cells4 (show k < h.cells.length by have := HN.out; omega) hd
  subst hgo
  have HCS2 : Hid (canS h (k : Int) b = (true && (qb && !lf))) := by unfold Hid; rw [HCS.out, Int.toNat_natCast, ← hd]
  clear hM1 hd hin q1 q2 q3
  go_wp2_with fail
  refine HB.out.mono ?_
  rintro e w'' ⟨rfl, rfl⟩
  cases qb with
  | false =>
    have HF : Hid (canS h (k : Int) b = false) := HCS2.out
    go_wp2
    go_ret
    exact ⟨by rw [HF.out]; rfl, rfl⟩
  | true =>
  cases lf with
  | false =>
    have HF : Hid (canS h (k : Int) b = true) := HCS2.out
    go_wp2
    go_ret
    exact ⟨by rw [HF.out]; rfl, rfl⟩
  | true =>
    have HF : Hid (canS h (k : Int) b = false) := HCS2.out
    go_wp2
    go_ret
    exact ⟨by rw [HF.out]; rfl, rfl⟩

theorem canS_all {h : Hp} {a b : Int} (hc : canS h a b = true) : (∃ k : Nat, a = (k : Int) ∧ k < h.cells.length) ∧ (∃ k : Nat, b = (k : Int) ∧ k < h.cells.length) ∧ (h.cells.getD a.toNat default).1 = false := by
  unfold canS rootOk at hc
  simp only [Bool.and_eq_true, decide_eq_true_eq, Bool.not_eq_true'] at hc
  exact ⟨⟨a.toNat, by omega, by omega⟩, ⟨b.toNat, by omega, by omega⟩, hc.2.2⟩
/-- The row of cells with one part set. -/
theorem setCl_flat (cs : List Cl) (k : Nat) (hk : k < cs.length) (second : Bool) (b : Int) : (cs.flatMap cellL).set (k * 4 + (if second then 3 else 2)) (.int .i64 b) = (setCl cs k second b).flatMap cellL := by
  unfold setCl
  refine rec_set1 cellL 4 cellL_len cs k _ hk (by split <;> decide) _ _ ?_
  obtain ⟨d, hd⟩ : ∃ d, d = cs.getD k default := ⟨_, rfl⟩
  rw [← hd]
  obtain ⟨lf, kk, aa, cc⟩ := d
  cases second <;> rfl

set_option maxRecDepth 100000 in
set_option maxHeartbeats 4000000 in
theorem set_any (h : Hp) (nm : List Bool) (hnm : nm.length = 200) (hl : h.cells.length ≤ 200) (hold : 0 ≤ h.old ∧ h.old ≤ (h.cells.length : Int)) (B hb : Nat) (v1 v2 : Value) (a b : Int) (second : Bool) (hcs : canS h a b = true) (w : World) (hW : WrAt w B hb v1 v2 h nm) :
    Calls Try.prog 66 #[.pointer (some ⟨hb, 0, none⟩), .int .i64 a, .bool second, .int .i64 b] w fun e w' => e = .returned (.tuple #[]) ∧ WrAt w' B hb v1 v2 ⟨h.old, setCl h.cells a.toNat second b, h.roots⟩ (if a < h.old ∧ h.old ≤ b then nm.set a.toNat true else nm) ∧ OnlyP (hpBlocks hb v1 v2) w w' := by
  obtain ⟨hR, hO1, hO2, hBh⟩ := hW
  obtain ⟨o1, c1, e1⟩ := own_formX hO1
  obtain ⟨o2, c2, e2⟩ := own_formX hO2
  subst e1 e2
  obtain ⟨⟨k, rfl, hkn⟩, _, hlf⟩ := canS_all hcs
  rw [Int.toNat_natCast] at hlf ⊢
  obtain ⟨g, hgo⟩ : ∃ g, o1 = some ⟨g, 0, none⟩ := by
    rcases hO1.2 with ⟨_, e⟩ | ⟨g, cap, cur, e, _⟩
    · omega
    · injection e with e; exact ⟨g, e⟩
  subst hgo
  have hbl := RowAt.lt hR
  have hne : g ≠ hb := fun e => own_ne (by decide) hO1 hR (by rw [← e]; rfl)
  obtain ⟨n, hn⟩ : ∃ n, n = h.cells.length := ⟨_, rfl⟩
  have HN := hideT' hn
  have HFL := hideT' (setCl_flat h.cells k hkn second b)
  have hO1' : w.ownsRow B 59 4 (.slice (some ⟨g, 0, none⟩) n c1) n (h.cells.flatMap cellL) := by rw [hn]; exact hO1
  rw [← hn] at hl hkn hR hold ⊢
  have hkn' : (k : Int) < (n : Int) := by omega
  have hk200 : (k : Int) < 200 := by omega
  have hc1 : w.cell? ⟨hb, 1, none⟩ = some (.slice (some ⟨g, 0, none⟩) n c1) := by rw [cell_of_row _ _ _ _ _ _ hR]; rfl
  have HO2 := hideT' hO2
  have HR := hideT' hR
  have HB1 : Hid (∀ w2, w2.ownsRow B 59 4 (.slice (some ⟨g, 0, none⟩) n c1) n ((h.cells.flatMap cellL).set (k * 4 + (if second then 3 else 2)) (.int .i64 b)) → w.grownBy w2 (some g) → w2.heap.size = w.heap.size → RowAt w2 hb 76 (wrL h.old (.slice (some ⟨g, 0, none⟩) n c1) (.slice o2 h.roots.length c2) nm).toArray ∧ (OwnR w2 B (.slice (some ⟨g, 0, none⟩) n c1) 59 cellL 4 (setCl h.cells k second b) ∧ OwnR w2 B (.slice o2 h.roots.length c2) 3 intL 1 h.roots) ∧ OnlyP (hpBlocks hb (.slice (some ⟨g, 0, none⟩) n c1) (.slice o2 h.roots.length c2)) w w2) := by
    intro w2 h1 h2 h3
    rw [HFL.out] at h1
    refine ⟨HR.out.grown h2 (by intro e; injection e with e; exact hne e.symm), ⟨?_, HO2.out.kept h2 (.inr (fun e => own_apart (by decide) hO1' HO2.out g rfl e))⟩, (OnlyP.refl _ _).grown h2 (fun r e => .inr (by cases e; exact .inr (.inl rfl)))⟩
    unfold OwnR
    rw [show (setCl h.cells k second b).length = n by unfold setCl; rw [List.length_set, HN.out]]
    exact h1
  have HO1 := hideT' hO1'
  obtain ⟨NM, hNM⟩ : ∃ NM, NM = (if (k : Int) < h.old ∧ h.old ≤ b then nm.set k true else nm) := ⟨_, rfl⟩
  rw [← hNM]
  obtain ⟨CS, hCS⟩ : ∃ CS, CS = setCl h.cells k second b := ⟨_, rfl⟩
  rw [← hCS]
  obtain ⟨XS, hXS⟩ : ∃ XS, XS = (h.cells.flatMap cellL).set (k * 4 + (if second then 3 else 2)) (.int .i64 b) := ⟨_, rfl⟩
  rw [← hXS, ← hCS] at HB1
  have HXS := hideT' hXS
  clear hR hO1 hO2 hn hO1' hcs hlf hCS hXS HFL
  by_cases p1 : (k : Int) < h.old
  · by_cases p2 : h.old ≤ b
    · have HNM : Hid (NM = nm.set k true) := by unfold Hid; rw [hNM, if_pos ⟨p1, p2⟩]
      clear hNM
      cases second with
      | true =>
        go_enter Try.func66, Try.ntmps66
        go_wp2_with (first | (refine store_ownc rfl 3 _ _ rfl rfl g (k * 4 + 3) (.int .i64 b) rfl rfl size1_int rfl HO1.out (by omega) ?_; intro w2 hw2 hg2 hs2; obtain ⟨r2, o2', p2⟩ := HB1.out w2 (by rw [HXS.out]; exact hw2) hg2 hs2; have s0 : w2.cell? ⟨hb, 0, none⟩ = some (.int .i64 h.old) := (by rw [cell_of_row _ _ _ _ _ _ r2]; rfl); have H2 := hideT' (And.intro r2 (And.intro o2' p2)); clear r2 o2' p2 hw2 hg2) | (refine store_at rfl 4 _ _ rfl rfl hb (3 + k) (.bool true) rfl rfl size1_bool rfl 76 _ H2.out.1 (by simp [wrL, rec_len boolL 1 boolL_len, hnm]; omega) ?_; intro w3 hR3 hg3 hs3))
        rw [wrL_set] at hR3
        have hap := hBh
        have HO := hideT' (And.intro hR3 (And.intro (And.intro (H2.out.2.1.1.kept hg3 (.inr (own_ne (by decide) H2.out.2.1.1 H2.out.1))) (H2.out.2.1.2.kept hg3 (.inr (own_ne (by decide) H2.out.2.1.2 H2.out.1)))) (H2.out.2.2.grown hg3 (fun r e => .inr (by injection e with e; exact .inl e.symm)))))
        clear hR3 hg3
        go_end0
        exact ⟨rfl, ⟨by rw [HNM.out]; exact HO.out.1, HO.out.2.1.1, HO.out.2.1.2, hBh⟩, HO.out.2.2⟩
      | false =>
        go_enter Try.func66, Try.ntmps66
        go_wp2_with (first | (refine store_ownc rfl 3 _ _ rfl rfl g (k * 4 + 2) (.int .i64 b) rfl rfl size1_int rfl HO1.out (by omega) ?_; intro w2 hw2 hg2 hs2; obtain ⟨r2, o2', p2⟩ := HB1.out w2 (by rw [HXS.out]; exact hw2) hg2 hs2; have s0 : w2.cell? ⟨hb, 0, none⟩ = some (.int .i64 h.old) := (by rw [cell_of_row _ _ _ _ _ _ r2]; rfl); have H2 := hideT' (And.intro r2 (And.intro o2' p2)); clear r2 o2' p2 hw2 hg2) | (refine store_at rfl 4 _ _ rfl rfl hb (3 + k) (.bool true) rfl rfl size1_bool rfl 76 _ H2.out.1 (by simp [wrL, rec_len boolL 1 boolL_len, hnm]; omega) ?_; intro w3 hR3 hg3 hs3))
        rw [wrL_set] at hR3
        have hap := hBh
        have HO := hideT' (And.intro hR3 (And.intro (And.intro (H2.out.2.1.1.kept hg3 (.inr (own_ne (by decide) H2.out.2.1.1 H2.out.1))) (H2.out.2.1.2.kept hg3 (.inr (own_ne (by decide) H2.out.2.1.2 H2.out.1)))) (H2.out.2.2.grown hg3 (fun r e => .inr (by injection e with e; exact .inl e.symm)))))
        clear hR3 hg3
        go_end0
        exact ⟨rfl, ⟨by rw [HNM.out]; exact HO.out.1, HO.out.2.1.1, HO.out.2.1.2, hBh⟩, HO.out.2.2⟩
    · have HNM : Hid (NM = nm) := by unfold Hid; rw [hNM, if_neg (fun h => p2 h.2)]
      clear hNM
      cases second with
      | true =>
        go_enter Try.func66, Try.ntmps66
        go_wp2_with (first | (refine store_ownc rfl 3 _ _ rfl rfl g (k * 4 + 3) (.int .i64 b) rfl rfl size1_int rfl HO1.out (by omega) ?_; intro w2 hw2 hg2 hs2; obtain ⟨r2, o2', p2⟩ := HB1.out w2 (by rw [HXS.out]; exact hw2) hg2 hs2; have s0 : w2.cell? ⟨hb, 0, none⟩ = some (.int .i64 h.old) := (by rw [cell_of_row _ _ _ _ _ _ r2]; rfl); have H2 := hideT' (And.intro r2 (And.intro o2' p2)); clear r2 o2' p2 hw2 hg2))
        go_end0
        exact ⟨rfl, ⟨by rw [HNM.out]; exact H2.out.1, H2.out.2.1.1, H2.out.2.1.2, hBh⟩, H2.out.2.2⟩
      | false =>
        go_enter Try.func66, Try.ntmps66
        go_wp2_with (first | (refine store_ownc rfl 3 _ _ rfl rfl g (k * 4 + 2) (.int .i64 b) rfl rfl size1_int rfl HO1.out (by omega) ?_; intro w2 hw2 hg2 hs2; obtain ⟨r2, o2', p2⟩ := HB1.out w2 (by rw [HXS.out]; exact hw2) hg2 hs2; have s0 : w2.cell? ⟨hb, 0, none⟩ = some (.int .i64 h.old) := (by rw [cell_of_row _ _ _ _ _ _ r2]; rfl); have H2 := hideT' (And.intro r2 (And.intro o2' p2)); clear r2 o2' p2 hw2 hg2))
        go_end0
        exact ⟨rfl, ⟨by rw [HNM.out]; exact H2.out.1, H2.out.2.1.1, H2.out.2.1.2, hBh⟩, H2.out.2.2⟩
  · have HNM : Hid (NM = nm) := by unfold Hid; rw [hNM, if_neg (fun h => p1 h.1)]
    clear hNM
    cases second with
    | true =>
      go_enter Try.func66, Try.ntmps66
      go_wp2_with (first | (refine store_ownc rfl 3 _ _ rfl rfl g (k * 4 + 3) (.int .i64 b) rfl rfl size1_int rfl HO1.out (by omega) ?_; intro w2 hw2 hg2 hs2; obtain ⟨r2, o2', p2⟩ := HB1.out w2 (by rw [HXS.out]; exact hw2) hg2 hs2; have s0 : w2.cell? ⟨hb, 0, none⟩ = some (.int .i64 h.old) := (by rw [cell_of_row _ _ _ _ _ _ r2]; rfl); have H2 := hideT' (And.intro r2 (And.intro o2' p2)); clear r2 o2' p2 hw2 hg2))
      go_end0
      exact ⟨rfl, ⟨by rw [HNM.out]; exact H2.out.1, H2.out.2.1.1, H2.out.2.1.2, hBh⟩, H2.out.2.2⟩
    | false =>
      go_enter Try.func66, Try.ntmps66
      go_wp2_with (first | (refine store_ownc rfl 3 _ _ rfl rfl g (k * 4 + 2) (.int .i64 b) rfl rfl size1_int rfl HO1.out (by omega) ?_; intro w2 hw2 hg2 hs2; obtain ⟨r2, o2', p2⟩ := HB1.out w2 (by rw [HXS.out]; exact hw2) hg2 hs2; have s0 : w2.cell? ⟨hb, 0, none⟩ = some (.int .i64 h.old) := (by rw [cell_of_row _ _ _ _ _ _ r2]; rfl); have H2 := hideT' (And.intro r2 (And.intro o2' p2)); clear r2 o2' p2 hw2 hg2))
      go_end0
      exact ⟨rfl, ⟨by rw [HNM.out]; exact H2.out.1, H2.out.2.1.1, H2.out.2.1.2, hBh⟩, H2.out.2.2⟩

theorem setOut_no {m : Yg} (a : Int) (second : Bool) (b : Int) (h : (ygOk m && canS m.h a b) = false) : setOut m a second b = ⟨⟨0, [], []⟩, []⟩ := by unfold setOut; rw [h]; rfl
theorem setOut_yes {m : Yg} (a : Int) (second : Bool) (b : Int) (h : (ygOk m && canS m.h a b) = true) : setOut m a second b = setM m a b second := by unfold setOut; rw [h]; rfl
theorem res_young8 {fn : Func} (hf : fn.results = #[.cell 8 30, .tmp 9]) {b : Nat} {tmps : Array Value} {w : World} {x y z u v : Value} (h2 : tmps[8]? = some (.pointer (some ⟨b, 0, none⟩))) (h3 : tmps[9]? = some v) (hR : RowAt w b 30 #[x, y, z, u]) :
    (results fn tmps).run Try.prog w = .ok (.tuple #[.agg #[x, y, z, u], v]) w := by
  have c0 : w.cell? ⟨b, 0, none⟩ = some x := by rw [cell_of_row w _ _ _ _ _ hR]; rfl
  have c1 : w.cell? ⟨b, 1, none⟩ = some y := by rw [cell_of_row w _ _ _ _ _ hR]; rfl
  have c2 : w.cell? ⟨b, 2, none⟩ = some z := by rw [cell_of_row w _ _ _ _ _ hR]; rfl
  have c3 : w.cell? ⟨b, 3, none⟩ = some u := by rw [cell_of_row w _ _ _ _ _ hR]; rfl
  simp [results, hf, go_sem, h2, h3, c0, c1, c2, c3]

set_option maxRecDepth 100000 in
set_option maxHeartbeats 4000000 in
theorem implSetPart_any (m : Yg) (x1 : Int) (x2 : Bool) (x3 : Int) (b c d : Nat) (w : World) (hs : YgSmall m 1048576) (hM : YgAt w b c d m) :
    Calls Try.prog 29 #[.agg (ygC b c d m), .int .i64 x1, .bool x2, .int .i64 x3] w fun e w' => YgAns (setOut m x1 x2 x3) (ygOk m && canS m.h x1 x3) w e w' := by
  have hz := zero_yg.1
  obtain ⟨l1, l2, l3⟩ := hM.lt
  obtain ⟨wA, hwA⟩ : ∃ wA, wA = (w.alloc (.cells (ygC b c d m) 30)).alloc (.cells #[.int .i64 0, .slice none 0 0, .slice none 0 0, .slice none 0 0] 30) := ⟨_, rfl⟩
  have hBA : Below w.heap.size w wA := by rw [hwA]; exact ((Below.refl _ _).alloc (Nat.le_refl _) _).alloc (by simp) _
  have hsA : wA.heap.size = w.heap.size + 2 := by rw [hwA]; simp
  have hXA : RowAt wA (w.heap.size + 1) 30 #[.int .i64 0, .slice none 0 0, .slice none 0 0, .slice none 0 0] := by
    rw [hwA]
    have := RowAt.new (w.alloc (.cells (ygC b c d m) 30)) 30 #[.int .i64 0, .slice none 0 0, .slice none 0 0, .slice none 0 0]
    rwa [World.size_alloc] at this
  have HG := hideT' (writtenOf_any m b c d wA hs (hM.below hBA l1 l2 l3))
  have HA := hideT' (And.intro hXA hBA)
  have HWA := hideT' hwA
  clear hM hXA hBA hwA hs l1 l2 l3
  go_enter Try.func29, Try.ntmps29
  go_wp2_with fail
  rw [← HWA.out]
  refine HG.out.mono ?_
  rintro e w1 ⟨hans, hB1⟩
  have hX1 := HA.out.1.below hB1 (by omega)
  have hBw1 := HA.out.2.trans (hB1.mono (by omega))
  have hs1 := hB1.size
  rcases hans with ⟨hq, rfl⟩ | ⟨hq, hb, v1, v2, rfl, hW⟩
  · have HOK : Hid ((ygOk m && canS m.h x1 x3) = false) := by unfold Hid; rw [hq]; rfl
    have HX := hideT' hBw1
    clear hq hBw1 hB1
    go_wp2_with (refine store_4 rfl 30 _ _ rfl rfl zero_yg.2 (w.heap.size + 1) #[.int .i64 0, .slice none 0 0, .slice none 0 0, .slice none 0 0] rfl (yg_one _ _ _ _ _ _ _ _ _ _) rfl rfl _ rfl hX1 ?_; intro w2 hR2 hg2 hs2)
    refine bodyPost_ret (v := .tuple #[.agg #[.int .i64 0, .slice none 0 0, .slice none 0 0, .slice none 0 0], .bool false]) (res_young8 Try.results29 rfl rfl hR2) rfl ⟨⟨.slice none 0 0, .slice none 0 0, .slice none 0 0, by rw [setOut_no _ _ _ HOK.out, HOK.out], by rw [setOut_no _ _ _ HOK.out]; exact YgO.nil _ _ _⟩, HX.out.grown hg2 HX.out.size (fun k e => by cases e; omega)⟩
  · have HQ := hideT' hq
    have hsnd := ygOk_snd hq
    obtain ⟨hl1, hl2, hold, _, _⟩ := sndOk_all hsnd
    have HCS := hideT' (canSet_any m.h (nmk m.noted) hl1 wA.heap.size hb v1 v2 x1 x3 w1 hW)
    obtain ⟨q, hqc⟩ : ∃ q, q = canS m.h x1 x3 := ⟨_, rfl⟩
    rw [← hqc] at HCS
    have HQC := hideT' hqc
    have HX1 := hideT' (And.intro hX1 hBw1)
    have HWR := hideT' hW
    have HOLD := hideT' hold
    clear hq hsnd hX1 hBw1 hB1 hW hqc hold
    go_wp2_with fail
    refine HCS.out.mono ?_
    rintro e w1' ⟨rfl, rfl⟩
    cases q with
    | false =>
      have HOK : Hid ((ygOk m && canS m.h x1 x3) = false) := by unfold Hid; rw [← HQC.out, Bool.and_false]
      obtain ⟨hX1, hBw1⟩ := HX1.out
      go_wp2_with (refine store_4 rfl 30 _ _ rfl rfl zero_yg.2 (w.heap.size + 1) #[.int .i64 0, .slice none 0 0, .slice none 0 0, .slice none 0 0] rfl (yg_one _ _ _ _ _ _ _ _ _ _) rfl rfl _ rfl hX1 ?_; intro w2 hR2 hg2 hs2)
      refine bodyPost_ret (v := .tuple #[.agg #[.int .i64 0, .slice none 0 0, .slice none 0 0, .slice none 0 0], .bool false]) (res_young8 Try.results29 rfl rfl hR2) rfl ⟨⟨.slice none 0 0, .slice none 0 0, .slice none 0 0, by rw [setOut_no _ _ _ HOK.out, HOK.out], by rw [setOut_no _ _ _ HOK.out]; exact YgO.nil _ _ _⟩, hBw1.grown hg2 hBw1.size (fun k e => by cases e; omega)⟩
    | true =>
    have HOK : Hid ((ygOk m && canS m.h x1 x3) = true) := by unfold Hid; rw [← HQC.out, HQ.out]; rfl
    obtain ⟨⟨k, hk, hkl⟩, _, _⟩ := canS_all HQC.out.symm
    have HSE := hideT' (set_any m.h (nmk m.noted) (nmk_len _) hl1 HOLD.out wA.heap.size hb v1 v2 x1 x3 x2 HQC.out.symm w1' HWR.out)
    have HWL : Hid (∀ k, hpBlocks hb v1 v2 k → wA.heap.size ≤ k) := hpB_slice HWR.out.2.2.2 HWR.out.2.1 HWR.out.2.2.1
    have HK0 : Hid (0 ≤ x1) := by unfold Hid; omega
    clear hk hkl
    go_wp2_with fail
    refine HSE.out.mono ?_
    rintro e w2 ⟨rfl, hW2, hP2⟩
    have hs2 := hP2.size
    have hB2 : Below wA.heap.size w1' w2 := hP2.belowB (Below.refl _ _) hs1 HWL.out
    have hX2 := HX1.out.1.below hB2 (by omega)
    have hBw2 := HX1.out.2.trans (hB2.mono (by omega))
    have hW2' : WrAt w2 wA.heap.size hb v1 v2 ⟨m.h.old, setCl m.h.cells x1.toNat x2 x3, m.h.roots⟩ (setN m x1 x3) := hW2
    obtain ⟨od, hod⟩ : ∃ od : Nat, m.h.old = (od : Int) := ⟨m.h.old.toNat, by have := HOLD.out; omega⟩
    have hlc : (setCl m.h.cells x1.toNat x2 x3).length = m.h.cells.length := by unfold setCl; rw [List.length_set]
    have HY := hideT' (young_any ⟨m.h.old, setCl m.h.cells x1.toNat x2 x3, m.h.roots⟩ (setN m x1 x3) (setN_len _ _ _) od hod (by show od ≤ (setCl _ _ _ _).length; rw [hlc]; have := HOLD.out; omega) (by show (setCl _ _ _ _).length ≤ 200; rw [hlc]; exact hl1) wA.heap.size hb v1 v2 w2 hW2')
    have HID := hideT' (setN_idx m x1 x3 HQ.out HK0.out od hod (by have := HOLD.out; omega))
    have HX2 := hideT' (And.intro hX2 hBw2)
    have HWT := hideT' hW2'
    clear hP2 hB2 hW2 hX2 hBw2 hW2' hod
    go_wp2_with fail
    refine HY.out.mono ?_
    rintro e w3 ⟨⟨v, rfl, hown⟩, hB3⟩
    rw [HID.out] at hown
    obtain ⟨K, hK⟩ : ∃ K : Hp, K = ⟨m.h.old, setCl m.h.cells x1.toNat x2 x3, m.h.roots⟩ := ⟨_, rfl⟩
    obtain ⟨NL, hNL⟩ : ∃ NL, NL = putL x1 (putS m x1 x3) m.noted := ⟨_, rfl⟩
    rw [← hK] at HWT
    rw [show m.h.old = K.old by rw [hK]]
    rw [← hNL] at hown
    have HOUT : Hid (setOut m x1 x2 x3 = ⟨K, NL⟩) := by unfold Hid; rw [setOut_yes _ _ _ HOK.out, hK, hNL]; rfl
    obtain ⟨o4, c4, e4⟩ := own_formX hown
    subst e4
    have hX3 := HX2.out.1.below hB3 (by omega)
    have hBw3 := HX2.out.2.trans (hB3.mono (by omega))
    have hs3 := hB3.size
    have ho1 : OwnR w3 wA.heap.size v1 59 cellL 4 K.cells := OwnR.below (l := K.cells) HWT.out.2.1 hB3 (Nat.le_refl _)
    have ho2 : OwnR w3 wA.heap.size v2 3 intL 1 K.roots := OwnR.below (l := K.roots) HWT.out.2.2.1 hB3 (Nat.le_refl _)
    obtain ⟨p1, q1, e5⟩ := own_formX ho1
    obtain ⟨p2, q2, e6⟩ := own_formX ho2
    subst e5 e6
    have HAP : Hid (∀ g, (Value.slice p2 K.roots.length q2).ownBlock = some g → (Value.slice o4 NL.length c4).ownBlock ≠ some g) := fun g e e' => by have := (HWT.out.2.2.1.lt g e).2; have := (hown.lt g e').1; omega
    have HO := hideT' (And.intro ho1 (And.intro ho2 (And.intro hown hBw3)))
    clear ho1 ho2 hown hBw3 hB3 hK hNL
    go_wp2_with (refine store_4 rfl 30 _ _ rfl rfl zero_yg.2 (w.heap.size + 1) #[.int .i64 K.old, .slice p1 K.cells.length q1, .slice p2 K.roots.length q2, .slice o4 NL.length c4] rfl (yg_one _ _ _ _ _ _ _ _ _ _) rfl rfl _ rfl hX3 ?_; intro w4 hR4 hg4 hs4)
    obtain ⟨hO1, hO2, hO3, hBw3⟩ := HO.out
    refine bodyPost_ret (v := .tuple #[.agg #[.int .i64 K.old, .slice p1 K.cells.length q1, .slice p2 K.roots.length q2, .slice o4 NL.length c4], .bool true]) (res_young8 Try.results29 rfl rfl hR4) rfl ⟨⟨.slice p1 K.cells.length q1, .slice p2 K.roots.length q2, .slice o4 NL.length c4, by rw [HOUT.out, HOK.out], ?_⟩, hBw3.grown hg4 hBw3.size (fun k e => by cases e; omega)⟩
    rw [HOUT.out]
    refine ⟨⟨⟨?_, ?_⟩, ?_⟩, HAP.out⟩
    · exact own_baseX (hO1.kept hg4 (.inr (fun e => by have := (hO1.lt _ e).1; omega))) (by omega)
    · exact own_baseX (hO2.kept hg4 (.inr (fun e => by have := (hO2.lt _ e).1; omega))) (by omega)
    · exact own_baseX (hO3.kept hg4 (.inr (fun e => by have := (hO3.lt _ e).1; omega))) (by omega)
end Go.Proofs.Ytoaancgmahdbnaa
