/-
  What impl.ReachIn answers.
-/
import Derived.Test.YtlggjjcfimegeaaImplReach
import Derived.Test.YtlggjjcfimegeaaImplGood
import Derived.Test.YtlggjjcfimegeaaSpecReach
import Derived.Maps.AppendAt
namespace Go.Proofs.Ytlggjjcfimegeaa
open Go.RowKit Go.Shelf BL
set_option linter.unusedVariables false
attribute [local go_sem] Oper.semAt_some

set_option maxHeartbeats 1000000 in
theorem only_any (hb mb n c : Nat) (w : World) :
    Calls Try.prog 32 #[.pointer (some ⟨hb, 0, none⟩), .slice (some ⟨mb, 0, none⟩) n c] w fun e w' => e = .returned (.func (.func 42) #[] #[.pointer (some ⟨w.heap.size + 1, 0, none⟩), .pointer (some ⟨w.heap.size, 0, none⟩)]) ∧ w' = (w.alloc (.cells #[.pointer (some ⟨hb, 0, none⟩)] 61)).alloc (.cells #[.slice (some ⟨mb, 0, none⟩) n c] 49) := by
  go_enter Try.func32, Try.ntmps32
  go_wp2
  go_ret
  exact ⟨rfl, rfl⟩

/-- The slots of a round of ReachIn. -/
def riAct (hb vb mb bm bh n nr : Nat) (old : Int) (o o2 : Option Addr) (c1 c2 : Nat) (x : Nat) (lf : Bool) (kk a c : Int) : Act := ⟨#[.agg #[.int .i64 old, .slice o n c1, .slice o2 nr c2], .pointer (some ⟨hb, 0, none⟩), .slice none 0 0, .bool false, .pointer (some ⟨vb, 0, none⟩), .int .i64 (x : Int), .agg #[.int .i64 old, .slice o n c1, .slice o2 nr c2], .bool true, .bool false, .slice (some ⟨mb, 0, none⟩) n n, .func (.func 42) #[] #[.pointer (some ⟨bm, 0, none⟩), .pointer (some ⟨bh, 0, none⟩)], .int .i64 (x : Int), .agg #[.bool lf, .int .i64 kk, .int .i64 a, .int .i64 c], undef, undef, undef, undef, undef], []⟩
/-- What holds between two rounds of ReachIn. -/
def RiI (m : Hp) (ms : List Bool) (w : World) (hb vb mb bm bh n : Nat) (o o2 : Option Addr) (c1 c2 : Nat) (pre : List Nat) (W : World) : Prop :=
  (∃ v, Boxed W vb 23 v ∧ W.ownsRow (bm + 1) 3 1 v pre.length (pre.flatMap fun i : Nat => intL (i : Int))) ∧ (Boxed W bm 49 (.slice (some ⟨mb, 0, none⟩) n n) ∧ Boxed W bh 61 (.pointer (some ⟨hb, 0, none⟩)) ∧ RowAt W hb 30 #[.int .i64 m.old, .slice o n c1, .slice o2 m.roots.length c2]) ∧ (RecAt W mb 4 boolL ms ∧ InR W (.slice o n c1) cellL 4 m.cells) ∧ Below w.heap.size w W ∧ pre.length ≤ 200 ∧ bm + 1 ≤ W.heap.size
theorem own_turn {A B : World} {row : Option Nat} {w0 base n s : Nat} {T : TypeId} {v : Value} {xs : List Value} (h : A.ownsRow base T s v n xs) (hg : A.grownBy B row) (hr : TurnsN w0 A row) : B.ownsRow base T s v n xs := by
  refine ⟨h.1, h.2.imp id fun ⟨g, cap, cur, h1, h2, h3, h4⟩ => ⟨g, cap, cur, h1, h2, row_turn h3 hg hr, h4⟩⟩
theorem RiI.turn {m : Hp} {ms : List Bool} {w : World} {hb vb mb bm bh n : Nat} {o o2 : Option Addr} {c1 c2 : Nat} {pre : List Nat} {A B : World} {row : Option Nat} {w0 : Nat} (h : RiI m ms w hb vb mb bm bh n o o2 c1 c2 pre A) (hg : A.grownBy B row) (hr : TurnsN w0 A row) (h0 : w.heap.size ≤ w0) : RiI m ms w hb vb mb bm bh n o o2 c1 c2 pre B := by
  obtain ⟨⟨v, h1, h2⟩, ⟨h3, h4, h5⟩, ⟨h6, h7⟩, h8, h9, h10⟩ := h
  exact ⟨⟨v, row_turn h1 hg hr, own_turn h2 hg hr⟩, ⟨row_turn h3 hg hr, row_turn h4 hg hr, row_turn h5 hg hr⟩, ⟨row_turn h6 hg hr, h7.turn hg hr⟩, belowN_turn h8 hg hr h0 (Nat.le_refl _), h9, Nat.le_trans h10 hg.size⟩
theorem RiI.need {m : Hp} {ms : List Bool} {w : World} {hb vb mb bm bh n : Nat} {o o2 : Option Addr} {c1 c2 : Nat} {pre : List Nat} {A : World} (hn : n = m.cells.length) (h : RiI m ms w hb vb mb bm bh n o o2 c1 c2 pre A) : NeedO bm bh hb mb o n c1 m.cells ms pre A := by
  obtain ⟨_, ⟨h3, h4, h5⟩, ⟨h6, h7⟩, _⟩ := h
  refine ⟨⟨h3.cell, h4.cell, by rw [cell_of_row A _ _ _ _ _ h5]; rfl⟩, h6, fun i hi _ _ => ?_⟩
  obtain ⟨o', cap', e, hin⟩ := h7
  cases e
  obtain ⟨g, rfl, _, hc⟩ := hin (by intro e; rw [e] at hi; simp at hi)
  exact ⟨g, rfl, fun j u hu => hc i j u (by omega) hu⟩
theorem idx_flat (l : List Nat) : (l.map fun i : Nat => (i : Int)).flatMap intL = l.flatMap fun i : Nat => intL (i : Int) := by
  induction l with
  | nil => rfl
  | cons a l ih => rw [List.map_cons, List.flatMap_cons, List.flatMap_cons, ih]

set_option maxRecDepth 100000 in
set_option maxHeartbeats 4000000 in
theorem implReachIn_any (m : Hp) (v1 v2 : Value) (w : World) (hs : HpSmall m 1048576) (hM : HpRd w v1 v2 m) :
    Calls Try.prog 13 #[.agg #[.int .i64 m.old, v1, v2]] w fun e w' => (∃ v, e = .returned (.tuple #[v, .bool (hpOk m)]) ∧ OwnR w' w.heap.size v 3 intL 1 (reachOut m)) ∧ Below w.heap.size w w' := by
  obtain ⟨o1, c1, e1, _⟩ := hM.1
  obtain ⟨o2, c2, e2, _⟩ := hM.2
  subst e1 e2
  obtain ⟨n, hn⟩ : ∃ n, n = m.cells.length := ⟨_, rfl⟩
  have HN := hideT' hn
  rw [← hn] at hM ⊢
  have hB : Below w.heap.size w (w.alloc (.cells #[.int .i64 m.old, .slice o1 n c1, .slice o2 m.roots.length c2] 30)) := (Below.refl _ _).alloc (Nat.le_refl _) _
  have HR : Hid (RowAt (w.alloc (.cells #[.int .i64 m.old, .slice o1 n c1, .slice o2 m.roots.length c2] 30)) w.heap.size 30 #[.int .i64 m.old, .slice o1 n c1, .slice o2 m.roots.length c2]) := RowAt.new _ _ _
  have HG := hideT' (implGoodHeap_any m _ _ _ hs (hM.below hB))
  have HM := hideT' hM
  have HB := hideT' hB
  clear hM hB hn
  refine (callsIn_wide (n := 3)).1 ?_
  refine callsIn_of_wp_marks Try.func13 rfl trivial ?_ rfl
  simp only [Try.ntmps13, List.size_toArray, List.length_cons, List.length_nil, Nat.reduceAdd, Nat.reduceSub, Array.replicate_succ, Array.replicate_zero, List.push_toArray, List.append_toArray, List.nil_append, List.cons_append]
  gi_wp2
  refine ⟨trivial, ?_⟩
  gi_at_call 10
  refine (callsIn_wide.2 HG.out).mono ?_
  rintro e w1 ⟨rfl, hB1⟩
  have hR1 := RowAt.below HR.out hB1 (by simp)
  have hB1' := HB.out.trans (hB1.mono (by simp))
  obtain ⟨q, hq⟩ : ∃ q, q = hpOk m := ⟨_, rfl⟩
  rw [← hq]
  have HQ := hideT' hq
  clear hq
  cases q with
  | false =>
    have HNR : Hid (reachOut m = []) := by unfold Hid reachOut; rw [← HQ.out]; rfl
    gi_wp2
    exact ⟨_, (by simp [results, Try.results13, go_sem]; rfl), ⟨.slice none 0 0, by rw [← HQ.out], by rw [HNR.out]; exact World.ownsRow_nil _ _ _ _⟩, hB1'⟩
  | true =>
  have hok : hpOk m = true := HQ.out.symm
  have hl1 : n ≤ 200 := by rw [HN.out]; exact (hpOk_all hok).1
  have HNR : Hid (reachOut m = idxI (reachM m 0) n) := by unfold Hid reachOut; rw [hok, HN.out]; rfl
  have hs1 := hB1.size
  simp only [World.size_alloc] at hs1
  have hM1 := HM.out.below hB1'
  have hBv : Below w1.heap.size w1 (w1.alloc (.cells #[.slice none 0 0] 23)) := (Below.refl _ _).alloc (Nat.le_refl _) _
  have hRv := hR1.old (.cells #[.slice none 0 0] 23)
  have HC := hideT' (reached_any m hok 0 (by omega) w.heap.size _ _ (w1.alloc (.cells #[.slice none 0 0] 23)) (by rw [cell_of_row _ _ _ _ _ _ hRv]; rfl) (by rw [cell_of_row _ _ _ _ _ _ hRv]; rfl) (hM1.below hBv))
  have HOK := hideT' hok
  have HRV := hideT' hRv
  have HM1 := hideT' hM1
  have HB1 := hideT' hB1'
  have HBV := hideT' hBv
  clear hok hB1 hM1 hBv hRv hR1 hB1'
  gi_wp2
  refine ⟨trivial, ?_⟩
  gi_at_call 33
  refine (callsIn_wide.2 HC.out).mono ?_
  rintro e w2 ⟨⟨mb, rfl, hmb, hDm⟩, hB2⟩
  have hml : (reachM m 0).length = n := by rw [HN.out]; exact reachM_len (Nat.zero_le _)
  rw [slR, hml]
  obtain ⟨ms, hms⟩ : ∃ ms, ms = reachM m 0 := ⟨_, rfl⟩
  rw [← hms] at hDm hml
  have HMS := hideT' hms
  have HDM := hideT' hDm
  have HB2 := hideT' hB2
  clear hms hDm hB2
  simp only [World.size_alloc] at hmb
  gi_wp2
  refine ⟨trivial, ?_⟩
  gi_at_call 32
  refine (callsIn_wide.2 (only_any _ _ _ _ _)).mono ?_
  rintro e w3 ⟨rfl, hw3⟩
  have hs2 := HB2.out.size
  simp only [World.size_alloc] at hs2
  have hs3 : w3.heap.size = w2.heap.size + 2 := by rw [hw3]; simp
  have hB3 : Below w2.heap.size w2 w3 := by rw [hw3]; exact ((Below.refl _ _).alloc (Nat.le_refl _) _).alloc (by simp) _
  have hmb2 := HDM.out.lt
  have hB2w : Below w.heap.size w w2 := (HB1.out.trans (HBV.out.mono HB1.out.size)).trans (HB2.out.mono (by simp; omega))
  have hI0 : RiI m ms w w.heap.size w1.heap.size mb (w2.heap.size + 1) w2.heap.size n o1 o2 c1 c2 [] w3 := by
    refine ⟨⟨.slice none 0 0, ?_, World.ownsRow_nil _ _ _ _⟩, ⟨?_, ?_, ?_⟩, ⟨HDM.out.below hB3 hmb2, ?_⟩, hB2w.trans (hB3.mono hB2w.size), by simp, by omega⟩
    · rw [Boxed, hB3.block _ (by omega), HB2.out.block _ (by simp)]; exact Boxed.new _ _ _
    · rw [hw3]
      have := Boxed.new (w2.alloc (.cells #[.pointer (some ⟨w.heap.size, 0, none⟩)] 61)) 49 (.slice (some ⟨mb, 0, none⟩) n n)
      rwa [World.size_alloc] at this
    · rw [hw3]; exact (Boxed.new _ _ _).alloc _
    · exact (HRV.out.below HB2.out (by simp; omega)).below hB3 (by omega)
    · exact (HM.out.1.below hB2w).below hB3
  have hseq := only_seq 2 (by omega) m.cells ms n (by omega) hml (w2.heap.size + 1) w2.heap.size w.heap.size mb c1 o1
  have hI0' := hideT' hI0
  clear hw3 hB3 hI0
  gi_wp2
  refine range_any (n := 3) (gf := 42) (lb := #[.pointer (some ⟨w2.heap.size + 1, 0, none⟩), .pointer (some ⟨w2.heap.size, 0, none⟩)]) (by rfl) (enters_of Try.func42 (by kernel_rfl) rfl) (encC m.cells) (fun x => rfl) _ _ _ hseq
    (RiI m ms w w.heap.size w1.heap.size mb (w2.heap.size + 1) w2.heap.size n o1 o2 c1 c2) (fun s A B row h hg hr => h.turn hg hr (by omega)) (fun s A h => h.need HN.out) hI0'.out
    (fun pre x c W => ∃ lf kk a cc, c = riAct w.heap.size w1.heap.size mb (w2.heap.size + 1) w2.heap.size n m.roots.length m.old o1 o2 c1 c2 x lf kk a cc ∧ RiI m ms w w.heap.size w1.heap.size mb (w2.heap.size + 1) w2.heap.size n o1 o2 c1 c2 pre W) ?ax ?assign ?body ?done
  case ax =>
    rintro s x c A B row ⟨lf, kk, a, cc, h1, h2⟩ hg hr
    exact ⟨lf, kk, a, cc, h1, h2.turn hg hr (by omega)⟩
  case assign =>
    intro l pre x W K hNx hI hK
    obtain ⟨d, hd⟩ : ∃ d, d = m.cells.getD x default := ⟨_, rfl⟩
    obtain ⟨lf, kk, a, cc⟩ := d
    have HI := hideT' hI
    have HK := hideT' hK
    rw [encC_eq hd]
    clear hd hI hK hNx hseq
    gi_wp2
    exact HK.out _ _ ⟨lf, kk, a, cc, rfl, HI.out⟩ (KeepsOthers.refl W)
  case body =>
    rintro l pre x c W hNx ⟨lf, kk, a, cc, rfl, ⟨v, hbx, hown⟩, hbb, hmm, hW, hpl, hsz⟩
    unfold riAct
    obtain ⟨ov, cap, hvv⟩ := own_formX hown
    subst hvv
    obtain ⟨i0, hi, hz0, hz1, hz2⟩ := info_parts info_int
    have hvc := hbx.cell
    have HBX := hideT' (And.intro hbx hown)
    have HBB := hideT' (And.intro hbb hmm)
    have HNX := hideT' hNx
    have hpl2 : pre.length ≤ x := by rw [hNx.2.2]; exact idxTo_len ms x
    have hxn : x < n := hNx.1
    clear hbx hown hbb hmm hNx hseq
    gi_wp2_with (gi_at_builtin; refine wpListIn_append_own _ rfl _ _ 23 rfl (w2.heap.size + 1 + 1) 3 i0 (.int .i64 0) 1 8 Try.underlying23 hi hz0 hz1 hz2 rfl (by decide) (.slice ov pre.length cap) _ _ rfl (HBX.out.2.alloc _) ⟨W.heap.size, 0, none⟩ 1 1 [.int .i64 (x : Int)] rfl rfl (cell_one_new _ _ _) (oneX_cell _) (by unfold maxLen; omega) (by omega) (by simp; omega) ?_; intro v5 w5 hown5 hg5 _; obtain ⟨g5, cap5, rfl⟩ := ownsRow_succ hown5; have hbx5 := boxR_append HBX.out.1 (by decide) HBX.out.2 hown5 hg5; have HBX5 := hideT' hbx5; have f5 : w5.cell? ⟨w1.heap.size, 0, none⟩ = some (.slice ov pre.length cap) := hbx5.1.cell; have fz5 : w5.frozen? ⟨w1.heap.size, 0, none⟩ = false := hbx5.1.frozen; clear hbx5)
    obtain ⟨_, q1, q2, q3, q4, q5, q6, q7, q8⟩ := HBX5.out
    obtain ⟨⟨b1, b2, b3⟩, b4, b5⟩ := HBB.out
    have low : ∀ j, j < w2.heap.size + 1 + 1 → j ≠ w1.heap.size → j < W.heap.size → (w5.setCell ⟨w1.heap.size, 0, none⟩ (.slice (some ⟨g5, 0, none⟩) (pre.length + 1) cap5)).heap[j]? = W.heap[j]? := fun j hj hn hl => q5 j hl hn hj
    have hlow : Below w2.heap.size w2 w2 := Below.refl _ _
    refine ⟨q3, ⟨_, q1, ?_⟩, ⟨?_, ?_, ?_⟩, ⟨?_, ?_⟩, ?_, ?_, ?_⟩
    · rw [List.length_append, List.length_singleton, List.flatMap_append]; exact q2
    · exact (low _ (by omega) (by omega) b1.lt).trans b1
    · exact (low _ (by omega) (by omega) b2.lt).trans b2
    · exact (low _ (by omega) (by omega) (RowAt.lt b3)).trans b3
    · exact (low _ (by omega) (by omega) (RecAt.lt b4)).trans b4
    · obtain ⟨o', cap', e, hin⟩ := b5
      refine ⟨o', cap', e, fun hne => ?_⟩
      obtain ⟨o1', cap1', e1, hin1⟩ := HM.out.1
      cases e1
      cases e
      obtain ⟨g1, hg1, hgl, _⟩ := hin1 hne
      obtain ⟨g, hgo, hg, hc⟩ := hin hne
      rw [hg1] at hgo
      cases hgo
      refine ⟨g1, hg1, Nat.lt_of_lt_of_le hg q4, fun i j u hi hu => ?_⟩
      rw [World.cell?_of_block (low g1 (by omega) (by omega) hg)]
      exact hc i j u hi hu
    · exact hW.trans ⟨q6, q7, q8, q4, fun j hj => low j (by omega) (by omega) (by have := hW.size; omega)⟩
    · rw [List.length_append, List.length_singleton]; omega
    · exact Nat.le_trans hsz q4
  case done =>
    rintro D xs W hD hS ⟨⟨v, hbx, hown⟩, hbb, hmm, hW, hpl, hsz⟩ hK
    have hvc := hbx.cell
    obtain ⟨ov, cap, hvv⟩ := own_formX hown
    subst hvv
    have HOW : Hid (W.ownsRow w.heap.size 3 1 (.slice ov xs.length cap) (reachOut m).length ((reachOut m).flatMap intL)) := by
      unfold Hid
      rw [HNR.out, ← HMS.out, idxI, List.length_map, idx_flat, ← hS]
      exact own_baseX hown (by have := hB2w.size; omega)
    have HW := hideT' hW
    have HKD := hideT' hK
    have HBX := hideT' hbx
    clear hbx hown hbb hmm hW hK hseq
    gi_wp2
    refine leave_marks (v := .tuple #[.slice ov xs.length cap, .bool true]) HKD.out (by simp [results, Try.results13, go_sem]; rw [hS]) ⟨⟨_, by rw [← HQ.out], ?_⟩, below_put HW.out ?_ HW.out.size⟩
    · refine ⟨HOW.out.1, HOW.out.2.imp id fun ⟨g, cap, cur, h1, h2, h3, h4⟩ => ⟨g, cap, cur, h1, h2, row_put h3 HKD.out rfl, h4⟩⟩
    · have := hB2w.size
      omega
end Go.Proofs.Ytlggjjcfimegeaa
