/-
  What isGood of a tree answers.
-/
import Derived.Test.YtgolfbjfopoeeaaDoorRangeRet
import Derived.Test.YtgolfbjfopoeeaaDoorImplRed
import Derived.Test.YtgolfbjfopoeeaaDoorMeth
namespace Go.Proofs.YtgolfbjfopoeeaaDoor
open Go.RowKit Go.Shelf BL
set_option linter.unusedVariables false
attribute [local go_sem] Oper.semAt_some

theorem TrIn.own3 {w : World} {P : Nat → Prop} {t : Lm} {b : Nat} (h : TrIn w P t b) : ∃ u, w.cell? ⟨b, 0, none⟩ = some (.int .i64 t.kd) ∧ w.cell? ⟨b, 1, none⟩ = some (.int .i64 t.nm) ∧ w.cell? ⟨b, 2, none⟩ = some (.int .i64 u) := by
  obtain ⟨u, v, h⟩ := h.head
  exact ⟨u, by rw [cell_of_row _ _ _ _ _ _ h]; rfl, by rw [cell_of_row _ _ _ _ _ _ h]; rfl, by rw [cell_of_row _ _ _ _ _ _ h]; rfl⟩
theorem results_one {fn : Func} {p : Tmp} (h : fn.results = #[.cell p 4]) (tmps : Array Value) (w : World) (b : Nat) (v : Value) (hp : tmps[p]?.getD undef = .pointer (some ⟨b, 0, none⟩)) (hc : w.cell? ⟨b, 0, none⟩ = some v) :
    (results fn tmps).run Tryd.prog w = .ok v w := by
  have hu := Tryd.underlying4
  simp [results, h, go_sem, hp, hc]
/-- Whether a node may stand. -/
def Lm.okN : Lm → Bool
  | .var n => decide (0 ≤ n) && decide (n ≤ 99)
  | _ => true
theorem okN_ar (t : Lm) (u : Int) : decide (arN ⟨t.kd, t.nm, u⟩ < 0) = !t.okN := by
  cases t with
  | var n =>
    simp only [Lm.kd, Lm.nm, arN, Lm.okN]
    by_cases h : 0 ≤ n ∧ n ≤ 99
    · simp [h.1, h.2]
    · rw [if_neg (by simpa using h)]
      have : (decide (0 ≤ n) && decide (n ≤ 99)) = false := by simpa using h
      rw [this]; simp
  | lam t => simp [Lm.kd, Lm.nm, arN, Lm.okN]
  | app s t => simp [Lm.kd, Lm.nm, arN, Lm.okN]
theorem ok_walk {t : Lm} {ys : List (Spot × Nat)} (h : ys.map Prod.fst = t.walk 0 (-1) 0) (hall : ∀ y ∈ ys, y.1.t.okN = true) : t.ok = true := by
  rw [Lm.walk_ok t 0 (-1) 0, ← h, List.all_eq_true]
  intro x hx
  obtain ⟨y, hy, rfl⟩ := List.mem_map.1 hx
  have := hall y hy
  revert this
  cases y.1.t <;> simp [Lm.okN]
theorem ok_bad {t : Lm} {pre : List Spot} {x : Spot} {post : List Spot} (h : t.walk 0 (-1) 0 = pre ++ x :: post) (hx : x.t.okN = false) : t.ok = false := by
  rw [Lm.walk_ok t 0 (-1) 0, List.all_eq_false]
  refine ⟨x, by rw [h]; simp, ?_⟩
  revert hx
  cases x.t <;> simp [Lm.okN]
def GdI (w : World) (pre : List (Spot × Nat)) (V : Nat → Prop) (W : World) : Prop :=
  (∀ z, V z ↔ z = w.heap.size) ∧ RowAt W w.heap.size 4 #[.bool false] ∧ Below w.heap.size w W ∧ ∀ y ∈ pre, y.1.t.okN = true
theorem GdI.step {w : World} {pre : List (Spot × Nat)} {V : Nat → Prop} {A B : World} {row : Option Nat} (h : GdI w pre V A) (hg : A.grownBy B row) (hr : ∀ r, row = some r → ¬ V r ∧ w.heap.size ≤ r) : GdI w pre V B :=
  ⟨h.1, h.2.1.grown hg (fun e => (hr _ e.symm).1 ((h.1 _).2 rfl)), h.2.2.1.grown hg h.2.2.1.size (fun k e => (hr k e).2), h.2.2.2⟩

/-- How a round of isGood begins. -/
def gdAct (w w2 : World) (t : Lm) (u : Int) (b : Nat) (x : Spot × Nat) : Act :=
  { tmps := #[.pointer (some ⟨b, 0, none⟩), undef, .pointer (some ⟨w.heap.size, 0, none⟩), .int .i64 150, .int .i64 40, undef, .pointer (some ⟨x.2, 0, none⟩), .tuple #[.int .i64 150, .int .i64 40], .pointer (some ⟨b, 0, none⟩), .pointer (some ⟨b, 0, none⟩), .pointer (some ⟨b, 0, none⟩),
      .agg #[.int .i64 t.kd, .int .i64 t.nm, .int .i64 u], .iface 51 (.agg #[.int .i64 t.kd, .int .i64 t.nm, .int .i64 u]), .tuple #[.int .i64 150, .int .i64 40], .int .i64 150, .int .i64 40, .pointer (some ⟨b, 0, none⟩), .pointer (some ⟨b, 0, none⟩), .pointer (some ⟨b, 4, none⟩),
      .int .i64 (t.sz : Int), .int .i64 150, .bool (decide ((150 : Int) < (t.sz : Int))), .bool (decide ((150 : Int) < (t.sz : Int))), .pointer (some ⟨b, 0, none⟩), .pointer (some ⟨b, 0, none⟩), .pointer (some ⟨b, 5, none⟩), .int .i64 (t.dp : Int), .int .i64 40, .bool (decide ((40 : Int) < (t.dp : Int))),
      .bool (decide ((150 : Int) < (t.sz : Int)) || decide ((40 : Int) < (t.dp : Int))), .pointer (some ⟨b, 0, none⟩), .func (.func 79) #[] #[.pointer (some ⟨w2.heap.size, 0, none⟩)], .agg #[.int .i64 (x.1.at_ : Int), .int .i64 x.1.up, .int .i64 (x.1.lam : Int)], .pointer (some ⟨x.2, 0, none⟩), undef, undef, undef, undef, undef, undef, undef], defers := [] }
set_option maxRecDepth 100000 in
set_option maxHeartbeats 8000000 in
theorem isGood_any (t : Lm) (b : Nat) (P : Nat → Prop) (w : World) (hT : TrIn w P t b) (hs : t.sz ≤ 1000000) :
    Calls Tryd.prog 61 #[.pointer (some ⟨b, 0, none⟩)] w fun e w' => e = .returned (.bool t.good) ∧ Below w.heap.size w w' := by
  refine (callsIn_wide (n := 4)).1 ?_
  have HT := hideT' hT
  obtain ⟨u, k0, k1, k2⟩ := hT.own3
  have k4 := hT.size
  have k5 := hT.deep
  have hbl := hT.lt
  have hds := t.dp_sz
  obtain ⟨r, hr⟩ : ∃ r, r = t.good := ⟨_, rfl⟩
  rw [← hr]
  have HR := hideT' hr
  clear hT hr
  have hB1 : Below w.heap.size w (w.alloc (.cells #[.bool false] 4)) := (Below.refl _ _).alloc (Nat.le_refl _) _
  have HB2 : Hid (Below w.heap.size w ((w.alloc (.cells #[.bool false] 4)).alloc (.cells #[.int .i64 t.kd, .int .i64 t.nm, .int .i64 u] 51))) := hB1.alloc (by simp) _
  have HRO : Hid (RowAt ((w.alloc (.cells #[.bool false] 4)).alloc (.cells #[.int .i64 t.kd, .int .i64 t.nm, .int .i64 u] 51)) w.heap.size 4 #[.bool false]) := RowAt.old (RowAt.new _ _ _) _
  clear hB1
  refine callsIn_of_wp_marks Tryd.func61 rfl trivial ?_ rfl
  simp only [Tryd.ntmps61, List.size_toArray, List.length_cons, List.length_nil, Nat.reduceAdd, Nat.reduceSub, Array.replicate_succ, Array.replicate_zero, List.push_toArray, List.append_toArray, List.nil_append, List.cons_append]
  gi_wp2
  refine ⟨fun _ _ => trivial, ?_⟩
  rw [meth_limits 313]
  gi_wp2
  gi_at_call 145
  refine (callsIn_wide.2 (limits_any t.kd t.nm u _)).mono ?_
  rintro e w2 ⟨rfl, hw2⟩
  have hB2 : Below w.heap.size w w2 := by rw [hw2]; exact HB2.out
  have hR2 : RowAt w2 w.heap.size 4 #[.bool false] := by rw [hw2]; exact HRO.out
  have m4 : w2.cell? ⟨b, 4, none⟩ = some (.int .i64 (t.sz : Int)) := by rw [hB2.cell (p := ⟨b, 4, none⟩) hbl]; exact k4
  have m5 : w2.cell? ⟨b, 5, none⟩ = some (.int .i64 (t.dp : Int)) := by rw [hB2.cell (p := ⟨b, 5, none⟩) hbl]; exact k5
  have hfr : w2.frozen? ⟨w.heap.size, 0, none⟩ = false := frozen_of_row w2 w.heap.size _ _ _ hR2
  have hcc : w2.cell? ⟨w.heap.size, 0, none⟩ = some (.bool false) := by rw [cell_of_row _ _ _ _ _ _ hR2]; rfl
  have HW2 := hideT' (And.intro hB2 hR2)
  have hsz2 := hR2.lt
  clear hw2 hB2 hR2 k0 k1 k2 k4 k5 HB2 HRO
  by_cases hbig : t.sz ≤ 150 ∧ t.dp ≤ 40
  · have HGD : Hid (r = t.ok) := by
      unfold Hid; rw [HR.out]; unfold Lm.good; rw [decide_eq_true hbig.1, decide_eq_true hbig.2]; simp
    have h1 : ¬ (150 : Int) < (t.sz : Int) := by omega
    have h2 : ¬ (40 : Int) < (t.dp : Int) := by omega
    clear hbig
    gi_wp2
    refine ⟨trivial, ?_⟩
    gi_at_call 62
    refine (callsIn_wide.2 (walk_any b _)).mono ?_
    rintro e w3 ⟨rfl, hw3⟩
    have hs3 : w3.heap.size = w2.heap.size + 1 := by rw [hw3]; simp
    have hB23 : Below w2.heap.size w2 w3 := by rw [hw3]; exact (Below.refl _ _).alloc (Nat.le_refl _) _
    have hB3 : Below w.heap.size w w3 := HW2.out.1.trans (hB23.mono HW2.out.1.size)
    have hI0 : GdI w [] (fun z => z = w.heap.size) w3 := ⟨fun z => Iff.rfl, HW2.out.2.below hB23 hsz2, hB3, fun y hy => by simp at hy⟩
    have hcx : w3.cell? ⟨w2.heap.size, 0, none⟩ = some (.pointer (some ⟨b, 0, none⟩)) := by
      rw [hw3, cell_of_row _ _ _ _ _ _ (RowAt.new w2 54 #[.pointer (some ⟨b, 0, none⟩)])]; rfl
    have HI0 := hideT' hI0
    have HB3 := hideT' hB3
    have HCX := hideT' hcx
    clear hw3 hI0 hB3 hcx hB23
    gi_wp2
    refine range_ret (gf := 79) (lb := #[.pointer (some ⟨w2.heap.size, 0, none⟩)]) (by rfl) (enters_of Tryd.func79 (by kernel_rfl) rfl) encS (fun x => rfl) _ _ _ (walk_seq w2.heap.size t b hs)
      (fun pre x V V' W hVV h => ⟨h.1, TrIn.mono (fun z hz _ hv => hz (hVV z hv)) h.2⟩)
      (GdI w) (fun s V A h z hz => by rw [(h.1 z).1 hz]; exact h.2.1.lt) (fun s V A B row h hg hr => h.step hg (fun r e => ⟨(hr r e).1, by have := (hr r e).2; omega⟩)) (fun z => z = w.heap.size) HI0.out ?need
      (fun pre x V c W => c = gdAct w w2 t u b x ∧ (∃ post, t.walk 0 (-1) 0 = pre.map Prod.fst ++ x.1 :: post) ∧ GdI w pre V W ∧ TrIn W (fun z => ¬ V z) x.1.t x.2) ?ax
      (fun W => RowAt W w.heap.size 4 #[.bool false] ∧ Below w.heap.size w W ∧ t.ok = false) ?rf ?assign ?body ?leave ?done
    case need =>
      intro B V hg hV
      refine ⟨TrIn.keep (w := w) (P := P) (by have := hg.size; omega) (fun x _ hx => ?_) (fun x _ hx hv => ?_) HT.out, ?_⟩
      · rw [hg.block x (by omega) (by simp)]; exact HB3.out.block x hx
      · rcases hV x hv with h | h <;> omega
      · rw [World.cell?_of_block (w := w3) (a := ⟨w2.heap.size, 0, none⟩) (hg.block _ (by simp; omega) (by simp))]; exact HCX.out
    case ax =>
      rintro s x V c A B row ⟨h1, h2, h3, h5⟩ hg hr
      exact ⟨h1, h2, h3.step hg (fun r e => ⟨(hr r e).1.1, by have := (hr r e).1.2; omega⟩), TrIn.turn hg (fun r e => (hr r e).2) h5⟩
    case rf =>
      rintro A B row ⟨h1, h2, h3⟩ hg hr
      exact ⟨TrIn.turn.row_same h1 hg (fun r e => (hr r e).2), h2.grown hg h2.size (fun k e => by have := (hr k e).1; omega), h3⟩
    case assign =>
      intro l pre x V W K hNx hI hK
      have HI := hideT' hI
      have HK := hideT' hK
      have HNX := hideT' hNx
      unfold encS
      clear hI hK hNx
      gi_wp2
      exact HK.out _ _ V ⟨rfl, HNX.out.1, HI.out, HNX.out.2⟩ (MoreB.refl _ _) (KeepsB.refl _ _)
    case body =>
      rintro l pre x V c W ⟨rfl, ⟨post, hpo⟩, hI, hTx⟩
      unfold gdAct
      obtain ⟨u2, d0, d1, d2⟩ := hTx.own3
      have hok := okN_ar x.1.t u2
      obtain ⟨kd, hkd⟩ : ∃ kd, kd = x.1.t.kd := ⟨_, rfl⟩
      obtain ⟨nm, hnm⟩ : ∃ nm, nm = x.1.t.nm := ⟨_, rfl⟩
      rw [← hkd] at d0 hok
      rw [← hnm] at d1 hok
      obtain ⟨ar, har⟩ : ∃ ar, ar = arN ⟨kd, nm, u2⟩ := ⟨_, rfl⟩
      have HAR : Hid (∀ w, Calls Tryd.prog 144 #[.agg #[.int .i64 kd, .int .i64 nm, .int .i64 u2]] w fun e w' => e = .returned (.int .i64 ar) ∧ w' = w.alloc (.cells #[.int .i64 kd, .int .i64 nm, .int .i64 u2] 51)) := by
        unfold Hid; rw [har]; exact arity_any kd nm u2
      rw [← har] at hok
      have hR := hI.2.1
      have hcr : W.cell? ⟨w.heap.size, 0, none⟩ = some (.bool false) := by rw [cell_of_row _ _ _ _ _ _ hR]; rfl
      have hfrz : W.frozen? ⟨w.heap.size, 0, none⟩ = false := frozen_of_row W w.heap.size _ _ _ hR
      have hrl := hR.lt
      have HI := hideT' hI
      have HPO := hideT' hpo
      clear hkd hnm har hR hTx hI hpo
      have hal : Below W.heap.size W (W.alloc (.cells #[.int .i64 kd, .int .i64 nm, .int .i64 u2] 51)) := (Below.refl _ _).alloc (Nat.le_refl _) _
      have HAL := hideT' hal
      clear hal
      cases hq : x.1.t.okN with
      | false =>
        have hneg : ar < 0 := by rw [hq] at hok; simpa using hok
        have HOK := hideT' (ok_bad HPO.out hq)
        clear hok hq
        gi_wp2
        refine ⟨fun _ _ => trivial, ?_⟩
        rw [meth_arity 313]
        gi_wp2
        refine (CallsIn.inRound l (callsIn_wide.2 (HAR.out _))).mono ?_
        rintro e w4 ⟨rfl, rfl⟩
        gi_wp2
        have hst : RowAt (W.setCell ⟨w.heap.size, 0, none⟩ (.bool false)) w.heap.size 4 #[.bool false] := heap_setCell_same W w.heap.size 0 _ _ (.bool false) HI.out.2.1
        have hbs : Below w.heap.size w (W.setCell ⟨w.heap.size, 0, none⟩ (.bool false)) := HI.out.2.2.1.setCell (by simp) _
        refine ⟨⟨RowAt.old hst _, hbs.alloc hbs.size _, HOK.out⟩, ⟨by simp, fun z hz hv => ?_⟩⟩
        have hzn : z ≠ w.heap.size := fun e => hv ((HI.out.1 z).2 e)
        rw [Below.heap_alloc _ _ _ (by simp; exact hz), heap_setCell_other _ ⟨w.heap.size, 0, none⟩ z _ (fun e => hzn e)]
      | true =>
        have hneg : ¬ ar < 0 := by rw [hq] at hok; simpa using hok
        have HQ := hideT' hq
        clear hok hq
        gi_wp2
        refine ⟨fun _ _ => trivial, ?_⟩
        rw [meth_arity 313]
        gi_wp2
        refine (CallsIn.inRound l (callsIn_wide.2 (HAR.out _))).mono ?_
        rintro e w4 ⟨rfl, rfl⟩
        gi_wp2
        refine ⟨V, ?_, MoreB.refl _ _, KeepsB.below HAL.out⟩
        have h1 := HI.out.step (row := none) ⟨HAL.out.os, HAL.out.tape, HAL.out.output, HAL.out.size, fun k hk _ => HAL.out.block k hk⟩ (fun r e => by cases e)
        refine ⟨h1.1, h1.2.1, h1.2.2.1, fun y hy => ?_⟩
        rcases List.mem_append.1 hy with hy | hy
        · exact h1.2.2.2 y hy
        · rw [List.mem_singleton] at hy
          subst hy
          exact HQ.out
    case leave =>
      rintro D W hD ⟨hR, hB, hno⟩ hK
      have HF : Hid (r = false) := by unfold Hid; rw [HGD.out, hno]
      have HRB := hideT' (And.intro hR hB)
      have HK := hideT' hK
      clear hR hB hno hK
      gi_wp2
      have hR' : RowAt (W.putObj D (.deferred none)) w.heap.size 4 #[.bool false] := row_put HRB.out.1 HK.out rfl
      exact leave_marks (v := .bool false) HK.out (results_one Tryd.results61 _ _ w.heap.size (.bool false) rfl (by rw [cell_of_row _ _ _ _ _ _ hR']; rfl)) ⟨by rw [HF.out], below_put HRB.out.2 (by omega) HRB.out.2.size⟩
    case done =>
      rintro D ys V W hD hS ⟨hV, hR, hB, hall⟩ hVD hK
      have HF : Hid (r = true) := by unfold Hid; rw [HGD.out]; exact ok_walk hS hall
      have hcr : W.cell? ⟨w.heap.size, 0, none⟩ = some (.bool false) := by rw [cell_of_row _ _ _ _ _ _ hR]; rfl
      have hfrz : W.frozen? ⟨w.heap.size, 0, none⟩ = false := frozen_of_row W w.heap.size _ _ _ hR
      have hst : RowAt (W.setCell ⟨w.heap.size, 0, none⟩ (.bool true)) w.heap.size 4 #[.bool true] := heap_setCell_same W w.heap.size 0 _ _ (.bool true) hR
      have hDn : D ≠ w.heap.size := fun e => by rw [e] at hK; rw [hR] at hK; cases hK
      have hK2 : (W.setCell ⟨w.heap.size, 0, none⟩ (.bool true)).heap[D]? = some (.deferred (some [])) := by rw [heap_setCell_other W ⟨w.heap.size, 0, none⟩ D _ (fun e => hDn e)]; exact hK
      have HRB := hideT' (And.intro hst (hB.setCell (p := ⟨w.heap.size, 0, none⟩) (by simp) (.bool true)))
      have HK := hideT' hK2
      clear hR hB hall hK hst hK2 hV
      gi_wp2
      have hR' : RowAt ((W.setCell ⟨w.heap.size, 0, none⟩ (.bool true)).putObj D (.deferred none)) w.heap.size 4 #[.bool true] := row_put HRB.out.1 HK.out rfl
      exact leave_marks (v := .bool true) HK.out (results_one Tryd.results61 _ _ w.heap.size (.bool true) rfl (by rw [cell_of_row _ _ _ _ _ _ hR']; rfl)) ⟨by rw [HF.out], below_put HRB.out.2 (by omega) HRB.out.2.size⟩
  · have HF : Hid (r = false) := by
      unfold Hid; rw [HR.out]; unfold Lm.good
      have : (decide (t.sz ≤ 150) && decide (t.dp ≤ 40)) = false := by simpa using hbig
      rw [this]; simp
    have hB5 : Below w.heap.size w (w2.setCell ⟨w.heap.size, 0, none⟩ (.bool false)) := HW2.out.1.setCell (by simp) _
    have hc5 : (w2.setCell ⟨w.heap.size, 0, none⟩ (.bool false)).cell? ⟨w.heap.size, 0, none⟩ = some (.bool false) := by
      have := heap_setCell_same w2 w.heap.size 0 _ _ (.bool false) HW2.out.2
      rw [cell_of_row _ _ _ _ _ _ this]; rfl
    by_cases h1 : (150 : Int) < (t.sz : Int)
    · gi_wp2
      exact ⟨_, results_one Tryd.results61 _ _ w.heap.size (.bool false) rfl hc5, by rw [HF.out], hB5⟩
    · have h2 : (40 : Int) < (t.dp : Int) := by omega
      gi_wp2
      exact ⟨_, results_one Tryd.results61 _ _ w.heap.size (.bool false) rfl hc5, by rw [HF.out], hB5⟩
end Go.Proofs.YtgolfbjfopoeeaaDoor
