/-
  What numbers tells: the numbers of the cells that are marked.
-/
import Derived.Test.YtoaancgmahdbnaaImplReach
import Derived.Test.YtoaancgmahdbnaaImplGood
import Derived.Test.YtoaancgmahdbnaaSpecReach
import Derived.Maps.AppendAt
namespace Go.Proofs.Ytoaancgmahdbnaa
open Go.RowKit Go.Shelf BL
set_option linter.unusedVariables false
attribute [local go_sem] Oper.semAt_some

set_option maxHeartbeats 1000000 in
theorem only_any (hb mb off n c : Nat) (w : World) :
    Calls Try.prog 78 #[.pointer (some ⟨hb, 0, none⟩), .slice (some ⟨mb, off, none⟩) n c] w fun e w' => e = .returned (.func (.func 85) #[] #[.pointer (some ⟨w.heap.size + 1, 0, none⟩), .pointer (some ⟨w.heap.size, 0, none⟩)]) ∧ w' = (w.alloc (.cells #[.pointer (some ⟨hb, 0, none⟩)] 89)).alloc (.cells #[.slice (some ⟨mb, off, none⟩) n c] 69) := by
  go_enter Try.func78, Try.ntmps78
  go_wp2
  go_ret
  exact ⟨rfl, rfl⟩

theorem own_turn {A B : World} {row : Option Nat} {w0 base n s : Nat} {T : TypeId} {v : Value} {xs : List Value} (h : A.ownsRow base T s v n xs) (hg : A.grownBy B row) (hr : TurnsN w0 A row) : B.ownsRow base T s v n xs := by
  refine ⟨h.1, h.2.imp id fun ⟨g, cap, cur, h1, h2, h3, h4⟩ => ⟨g, cap, cur, h1, h2, row_turn h3 hg hr, h4⟩⟩
theorem idx_flat (l : List Nat) : (l.map fun i : Nat => (i : Int)).flatMap intL = l.flatMap fun i : Nat => intL (i : Int) := by
  induction l with
  | nil => rfl
  | cons a l ih => rw [List.map_cons, List.flatMap_cons, List.flatMap_cons, ih]
theorem MarksAt.below {W W' : World} {mb off B : Nat} {ms : List Bool} (h : MarksAt W mb off ms) (hB : Below B W W') (hm : mb < B) : MarksAt W' mb off ms := fun i hi => (hB.cell (p := ⟨mb, off + i, none⟩) hm).trans (h i hi)

/-- The slots of a round of numbers. -/
def nuAct (hb vb mb off bm bh k kc : Nat) (x : Nat) (lf : Bool) (kk a c : Int) : Act := ⟨#[.pointer (some ⟨hb, 0, none⟩), .slice (some ⟨mb, off, none⟩) k kc, undef, undef, .slice none 0 0, .pointer (some ⟨vb, 0, none⟩), .int .i64 (x : Int), .pointer (some ⟨hb, 0, none⟩), .slice (some ⟨mb, off, none⟩) k kc, .func (.func 85) #[] #[.pointer (some ⟨bm, 0, none⟩), .pointer (some ⟨bh, 0, none⟩)], .int .i64 (x : Int), .agg #[.bool lf, .int .i64 kk, .int .i64 a, .int .i64 c], undef, undef, undef, undef, undef], []⟩
/-- What holds between two rounds of numbers. -/
def NuI (w : World) (hb mb off k kc : Nat) (pre : List Nat) (W : World) : Prop :=
  (∃ v, Boxed W w.heap.size 23 v ∧ W.ownsRow (w.heap.size + 3) 3 1 v pre.length (pre.flatMap fun i : Nat => intL (i : Int))) ∧ (Boxed W (w.heap.size + 2) 69 (.slice (some ⟨mb, off, none⟩) k kc) ∧ Boxed W (w.heap.size + 1) 89 (.pointer (some ⟨hb, 0, none⟩))) ∧ Below w.heap.size w W ∧ pre.length ≤ 200 ∧ w.heap.size + 3 ≤ W.heap.size
theorem NuI.turn {w : World} {hb mb off k kc : Nat} {pre : List Nat} {A B : World} {row : Option Nat} {w0 : Nat} (h : NuI w hb mb off k kc pre A) (hg : A.grownBy B row) (hr : TurnsN w0 A row) (h0 : w.heap.size ≤ w0) : NuI w hb mb off k kc pre B := by
  obtain ⟨⟨v, h1, h2⟩, ⟨h3, h4⟩, h8, h9, h10⟩ := h
  exact ⟨⟨v, row_turn h1 hg hr, own_turn h2 hg hr⟩, ⟨row_turn h3 hg hr, row_turn h4 hg hr⟩, belowN_turn h8 hg hr h0 (Nat.le_refl _), h9, Nat.le_trans h10 hg.size⟩
theorem NuI.need {w : World} {hb mb off k kc n c1 : Nat} {o : Option Addr} {cs : List Cl} {ms : List Bool} {pre : List Nat} {A : World} (hn : n = cs.length) (hk : k ≤ n) (h1 : w.cell? ⟨hb, 1, none⟩ = some (.slice o n c1)) (hin : InR w (.slice o n c1) cellL 4 cs) (hms : MarksAt w mb off ms) (hmb : mb < w.heap.size) (h : NuI w hb mb off k kc pre A) : NeedO (w.heap.size + 2) (w.heap.size + 1) hb mb off kc o k n c1 cs ms pre A := by
  obtain ⟨_, ⟨h3, h4⟩, hB, _⟩ := h
  refine ⟨⟨h3.cell, h4.cell, (hB.cell (p := ⟨hb, 1, none⟩) (block_lt_of_cell (a := ⟨hb, 1, none⟩) h1)).trans h1⟩, hms.below hB hmb, fun i hi _ _ => ?_⟩
  obtain ⟨o', cap', e, hin⟩ := hin
  cases e
  obtain ⟨g, rfl, hg, hc⟩ := hin (fun e => absurd (show cs.length = 0 by rw [e]; rfl) (by omega))
  exact ⟨g, rfl, fun j u hu => (hB.cell (p := ⟨g, i * 4 + j, none⟩) hg).trans (hc i j u (by omega) hu)⟩

set_option maxRecDepth 100000 in
set_option maxHeartbeats 4000000 in
theorem numbers_any (cs : List Cl) (ms : List Bool) (hb mb off k kc n c1 : Nat) (o : Option Addr) (w : World) (hml : ms.length = k) (hk : k ≤ n) (hn : n ≤ 200) (hcs : n = cs.length) (h1 : w.cell? ⟨hb, 1, none⟩ = some (.slice o n c1)) (hin : InR w (.slice o n c1) cellL 4 cs) (hms : MarksAt w mb off ms) (hmb : mb < w.heap.size) :
    Calls Try.prog 56 #[.pointer (some ⟨hb, 0, none⟩), .slice (some ⟨mb, off, none⟩) k kc] w fun e w' => (∃ v, e = .returned v ∧ OwnR w' w.heap.size v 3 intL 1 (idxI ms k)) ∧ Below w.heap.size w w' := by
  have HNEED : Hid (∀ pre A, NuI w hb mb off k kc pre A → NeedO (w.heap.size + 2) (w.heap.size + 1) hb mb off kc o k n c1 cs ms pre A) := fun pre A h => h.need hcs hk h1 hin hms hmb
  have hseq := only_seq 2 (by omega) cs ms k n (by omega) hml hk (w.heap.size + 2) (w.heap.size + 1) hb mb off kc c1 o
  have HSEQ := hideT' hseq
  clear h1 hin hms hcs hseq
  refine (callsIn_wide (n := 3)).1 ?_
  refine callsIn_of_wp_marks Try.func56 rfl trivial ?_ rfl
  simp only [Try.ntmps56, List.size_toArray, List.length_cons, List.length_nil, Nat.reduceAdd, Nat.reduceSub, Array.replicate_succ, Array.replicate_zero, List.push_toArray, List.append_toArray, List.nil_append, List.cons_append]
  gi_wp2
  refine ⟨trivial, ?_⟩
  gi_at_call 78
  refine (callsIn_wide.2 (only_any _ _ _ _ _ _)).mono ?_
  rintro e w3 ⟨rfl, hw3⟩
  have hs3 : w3.heap.size = w.heap.size + 3 := by rw [hw3]; simp
  have hB3 : Below w.heap.size w w3 := by rw [hw3]; exact (((Below.refl _ _).alloc (Nat.le_refl _) _).alloc (by simp) _).alloc (by simp; omega) _
  have hI0 : NuI w hb mb off k kc [] w3 := by
    refine ⟨⟨.slice none 0 0, ?_, World.ownsRow_nil _ _ _ _⟩, ⟨?_, ?_⟩, hB3, by simp, by omega⟩
    · rw [hw3]; exact ((Boxed.new w 23 _).alloc _).alloc _
    · rw [hw3]
      have := Boxed.new ((w.alloc (.cells #[.slice none 0 0] 23)).alloc (.cells #[.pointer (some ⟨hb, 0, none⟩)] 89)) 69 (.slice (some ⟨mb, off, none⟩) k kc)
      rwa [World.size_alloc, World.size_alloc] at this
    · rw [hw3]
      have := (Boxed.new (w.alloc (.cells #[.slice none 0 0] 23)) 89 (.pointer (some ⟨hb, 0, none⟩))).alloc (.cells #[.slice (some ⟨mb, off, none⟩) k kc] 69)
      simpa using this
  have hI0' := hideT' hI0
  clear hw3 hB3 hI0
  simp only [World.size_alloc]
  gi_wp2
  refine range_any (n := 3) (gf := 85) (lb := #[.pointer (some ⟨w.heap.size + 2, 0, none⟩), .pointer (some ⟨w.heap.size + 1, 0, none⟩)]) (by rfl) (enters_of Try.func85 (by kernel_rfl) rfl) (encC cs) (fun x => rfl) _ _ _ HSEQ.out
    (NuI w hb mb off k kc) (fun s A B row h hg hr => h.turn hg hr (by omega)) (fun s A h => HNEED.out s A h) hI0'.out
    (fun pre x c W => ∃ lf kk a cc, c = nuAct hb w.heap.size mb off (w.heap.size + 2) (w.heap.size + 1) k kc x lf kk a cc ∧ NuI w hb mb off k kc pre W) ?ax ?assign ?body ?done
  case ax =>
    rintro s x c A B row ⟨lf, kk, a, cc, h1, h2⟩ hg hr
    exact ⟨lf, kk, a, cc, h1, h2.turn hg hr (by omega)⟩
  case assign =>
    intro l pre x W K hNx hI hK
    obtain ⟨d, hd⟩ : ∃ d, d = cs.getD x default := ⟨_, rfl⟩
    obtain ⟨lf, kk, a, cc⟩ := d
    have HI := hideT' hI
    have HK := hideT' hK
    rw [encC_eq hd]
    clear hd hI hK hNx
    gi_wp2
    exact HK.out _ _ ⟨lf, kk, a, cc, rfl, HI.out⟩ (KeepsOthers.refl W)
  case body =>
    rintro l pre x c W hNx ⟨lf, kk, a, cc, rfl, ⟨v, hbx, hown⟩, hbb, hW, hpl, hsz⟩
    unfold nuAct
    obtain ⟨ov, cap, hvv⟩ := own_formX hown
    subst hvv
    obtain ⟨i0, hi, hz0, hz1, hz2⟩ := info_parts info_int
    have hvc := hbx.cell
    have HBX := hideT' (And.intro hbx hown)
    have HBB := hideT' hbb
    have hpl2 : pre.length ≤ x := by rw [hNx.2.2]; exact idxTo_len ms x
    have hxn : x < k := hNx.1
    clear hbx hown hbb hNx
    gi_wp2_with (gi_at_builtin; refine wpListIn_append_own _ rfl _ _ 23 rfl (w.heap.size + 3) 3 i0 (.int .i64 0) 1 8 Try.underlying23 hi hz0 hz1 hz2 rfl (by decide) (.slice ov pre.length cap) _ _ rfl (HBX.out.2.alloc _) ⟨W.heap.size, 0, none⟩ 1 1 [.int .i64 (x : Int)] rfl rfl (cell_one_new _ _ _) (oneX_cell _) (by unfold maxLen; omega) (by omega) (by simp; omega) ?_; intro v5 w5 hown5 hg5 _; obtain ⟨g5, cap5, rfl⟩ := ownsRow_succ hown5; have hbx5 := boxR_append HBX.out.1 (by decide) HBX.out.2 hown5 hg5; have HBX5 := hideT' hbx5; have f5 : w5.cell? ⟨w.heap.size, 0, none⟩ = some (.slice ov pre.length cap) := hbx5.1.cell; have fz5 : w5.frozen? ⟨w.heap.size, 0, none⟩ = false := hbx5.1.frozen; clear hbx5)
    obtain ⟨_, q1, q2, q3, q4, q5, q6, q7, q8⟩ := HBX5.out
    obtain ⟨b1, b2⟩ := HBB.out
    have low : ∀ j, j < w.heap.size + 3 → j ≠ w.heap.size → j < W.heap.size → (w5.setCell ⟨w.heap.size, 0, none⟩ (.slice (some ⟨g5, 0, none⟩) (pre.length + 1) cap5)).heap[j]? = W.heap[j]? := fun j hj hn hl => q5 j hl hn hj
    refine ⟨q3, ⟨_, q1, ?_⟩, ⟨?_, ?_⟩, ?_, ?_, ?_⟩
    · rw [List.length_append, List.length_singleton, List.flatMap_append]; exact q2
    · exact (low _ (by omega) (by omega) b1.lt).trans b1
    · exact (low _ (by omega) (by omega) b2.lt).trans b2
    · exact hW.trans ⟨q6, q7, q8, q4, fun j hj => low j (by omega) (by omega) (by have := hW.size; omega)⟩
    · rw [List.length_append, List.length_singleton]; omega
    · exact Nat.le_trans hsz q4
  case done =>
    rintro D xs W hD hS ⟨⟨v, hbx, hown⟩, hbb, hW, hpl, hsz⟩ hK
    have hvc := hbx.cell
    obtain ⟨ov, cap, hvv⟩ := own_formX hown
    subst hvv
    have HOW : Hid (W.ownsRow w.heap.size 3 1 (.slice ov xs.length cap) (idxI ms k).length ((idxI ms k).flatMap intL)) := by
      unfold Hid
      rw [idxI, List.length_map, idx_flat, ← hS]
      exact own_baseX hown (by omega)
    have HW := hideT' hW
    have HKD := hideT' hK
    clear hbx hown hbb hW hK
    gi_wp2
    refine leave_marks (v := .slice ov xs.length cap) HKD.out (by simp [results, Try.results56, go_sem]; rw [hS]) ⟨⟨_, rfl, ?_⟩, below_put HW.out ?_ HW.out.size⟩
    · refine ⟨HOW.out.1, HOW.out.2.imp id fun ⟨g, cap, cur, h1, h2, h3, h4⟩ => ⟨g, cap, cur, h1, h2, row_put h3 HKD.out rfl, h4⟩⟩
    · omega
end Go.Proofs.Ytoaancgmahdbnaa
