/-
  The texts ImplTerms, MarkText, MarkString, one behind the other, as one.
-/
import Derived.Test.YthbnacikomimfaaDoorTailTermsOfA
import Derived.Test.YthbnacikomimfaaDoorPkReadNumA
import Derived.Test.YthbnacikomimfaaDoorText
import Derived.Maps.OwnIn
import Derived.Shelf.Abstract
import Derived.Test.YthbnacikomimfaaDoorRecs2
import Derived.Test.YthbnacikomimfaaDoorRecString

/-
  What impl.TermsOf answers.
-/
namespace Go.Proofs.YthbnacikomimfaaDoor
open Go.RowKit Go.Shelf BL
set_option linter.unusedVariables false
attribute [local go_sem] Oper.semAt_some

/-- Normal ends alone. -/
def CalmT (Q : Exit → Act → World → Prop) : Exit → Act → World → Prop
  | .normal, a, w => Q .normal a w
  | _, _, _ => False
theorem CalmT.imp {Q : Exit → Act → World → Prop} : ∀ (e : Exit) (a : Act) (w : World), CalmT Q e a w → Q e a w := fun e a w h => by
  cases e <;> first | exact h | exact h.elim
theorem calmT_put {Q : Exit → Act → World → Prop} : ∀ c a d v w, CalmT Q (.panic c) (Act.put a d v) w → CalmT Q (.panic c) a w := fun _ _ _ _ _ h => h
theorem CalmT.normal {Q : Exit → Act → World → Prop} {a : Act} {w : World} (h : Q .normal a w) : CalmT Q .normal a w := h
theorem manyRT {ops : Array Oper} {Q : Exit → Act → World → Prop} {a : Act} {w : World} {id l n : Nat} (ps : List (Nat × (World → Prop))) (S : World → Prop) (hm : Tryd.prog.follows .mixedOrders = true) (hd : noDefer ops = true)
    (h : BL.wpAnyM Tryd.prog .any ops (CalmT Q) ps S ops.size (Array.replicate ops.size false) a w.drew) : (Code.region id ops true).wpIn (Fence.wide.inRound l) n Tryd.prog Q a w :=
  wpIn_mono (region_round hm hd (fun ⟨_, _, h⟩ => h) (BL.wpAny_of_many _ _ _ _ h)) CalmT.imp
theorem leave_marksT {fn : Func} {tmps : Array Value} {V : World} {D n : Nat} {v : Value} {R : Ending → World → Prop} (hK : V.heap[D]? = some (.deferred (some []))) (hres : (results fn tmps).run Tryd.prog (V.putObj D (.deferred none)) = .ok v (V.putObj D (.deferred none)))
    (hR : R (.returned v) (V.putObj D (.deferred none))) : LeavesInM Fence.wide n Tryd.prog fn tmps R [{ target := .collected D, args := #[] }] .returning V :=
  ⟨by simp, .inl ⟨_, _, rfl, run_takeDeferred hK, _, hres, hR⟩⟩
theorem row_putT {V : World} {b D : Nat} {t : TypeId} {cs : Array Value} {o o' : Obj} (h : V.heap[b]? = some (.cells cs t (0, 0))) (hK : V.heap[D]? = some o) (ho : o.isCells = false) : (V.putObj D o').heap[b]? = some (.cells cs t (0, 0)) := by
  rw [World.putObj_heap_other (fun e => ?_)]
  · exact h
  · subst e
    rw [h] at hK; cases hK; cases ho
theorem below_putT {V w : World} {D B : Nat} {o' : Obj} (h : Below B w V) (hD : B ≤ D) (hB : B ≤ V.heap.size) : Below B w (V.putObj D o') :=
  h.grown (grownBy_putObj' V D o') hB (fun k e => by cases e; exact hD)
theorem row_sameT {w w' : World} {b : Nat} {T : TypeId} {cs : Array Value} {row : Option Nat} (h : RowAt w b T cs) (hg : w.grownBy w' row) (hr : ∀ r, row = some r → ∃ o : Obj, w.heap[r]? = some o ∧ o.isCells = false) : RowAt w' b T cs := by
  unfold RowAt
  rw [hg.block b h.lt (fun e => by
    obtain ⟨o, ho, hc⟩ := hr b e.symm
    rw [h] at ho
    cases ho
    cases hc)]
  exact h
theorem own_formX {w : World} {B n s : Nat} {T : TypeId} {v : Value} {xs : List Value} (h : w.ownsRow B T s v n xs) : ∃ o cap, v = .slice o n cap := by
  rcases h.2 with ⟨h1, h0⟩ | ⟨g, cap, cur, h1, _⟩
  · exact ⟨none, 0, by rw [h1, h0]⟩
  · exact ⟨_, _, h1⟩
theorem own_keepX {w w' : World} {B n s : Nat} {T : TypeId} {v : Value} {xs : List Value} (h : w.ownsRow B T s v n xs) (hk : ∀ g, v.ownBlock = some g → w'.heap[g]? = w.heap[g]?) : w'.ownsRow B T s v n xs :=
  ⟨h.1, h.2.imp id fun ⟨g, cap, cur, h1, h2, h3, h4⟩ => ⟨g, cap, cur, h1, h2, by rw [hk g (by rw [h1]; rfl)]; exact h3, h4⟩⟩
theorem res_tm {fn : Func} (hf : fn.results = #[.cell 2 25, .cell 3 4]) {tmps : Array Value} {w : World} {b2 b3 : Nat} {u v : Value} (h2 : tmps[2]?.getD undef = .pointer (some ⟨b2, 0, none⟩)) (h3 : tmps[3]?.getD undef = .pointer (some ⟨b3, 0, none⟩)) (c2 : RowAt w b2 25 #[u]) (c3 : RowAt w b3 4 #[v]) :
    (results fn tmps).run Tryd.prog w = .ok (.tuple #[u, v]) w := by
  have hu := Tryd.underlying4
  have hu2 := Tryd.underlying25
  have q2 : w.cell? ⟨b2, 0, none⟩ = some u := by rw [cell_of_row _ _ _ _ _ _ c2]; rfl
  have q3 : w.cell? ⟨b3, 0, none⟩ = some v := by rw [cell_of_row _ _ _ _ _ _ c3]; rfl
  simp [results, hf, go_sem, h2, h3, q2, q3]
theorem terms_any (g : Bool) (k : Nat) (p : List Int) (j : Nat) (q : List Int) (w : World) :
    Calls Tryd.prog 44 #[.agg (numC g k p j q)] w fun e w' => e = .returned (.func (.func 74) #[] #[.pointer (some ⟨w.heap.size, 0, none⟩)]) ∧ w' = w.alloc (.cells (numC g k p j q) 71) := by
  have hmf : ∀ (fn : Fn) (first cap : Array Value) (w : World), (Instr.makeFunc fn first cap).run Tryd.prog w = .ok (.func fn first cap) w := fun _ _ _ _ => rfl
  go_enter Tryd.func44, Tryd.ntmps44
  go_wp2
  go_ret
  exact ⟨rfl, rfl⟩
theorem run_num0 {a : Act} {o : Oper} {w : World} (x : Operand) (ho : o.op = .load 71 x) (b : Nat) (hx : a.eval x = .pointer (some ⟨b, 0, none⟩)) (g : Bool) (u : Int) (p : List Int) (v : Int) (q : List Int) (hN : NumAt w b g u p v q) (hl : p.length = 204) (hm : q.length = 204) :
    (execOp a.eval o).run Tryd.prog w = .ok (.value (.agg (numC g u p v q))) w := by
  unfold execOp
  simp only [ho, hx, Instr.loadAt, Instr.sureAddr, Sem.run_bind, Sem.run_pure, Result.andThen_ok, run_loadVar_row w b 71 71 (numC g u p v q) (0, 0) _ hN Tryd.underlying71 rfl (num_info g u p v q hl hm)]
/-- The terms of what was given. -/
def tmsOf (pre : List (Bool × Nat × Nat × List Int)) : List (Bool × Nat) := pre.map prT
/-- How TermsOf stands between the rounds. -/
structure TmI (w : World) (b2 b3 b6 : Nat) (pre : List (Bool × Nat × Nat × List Int)) (V : Nat → Prop) (W : World) (v : Value) : Prop where
  hV : ∀ z, V z ↔ (z = b2 ∨ z = b3 ∨ z = b6 ∨ v.ownBlock = some z)
  r2 : RowAt W b2 25 #[.slice none 0 0]
  r3 : RowAt W b3 4 #[.bool false]
  r6 : RowAt W b6 25 #[v]
  tm : TmS W (b6 + 1) v (tmsOf pre)
  bl : Below w.heap.size w W
  ln : pre.length ≤ 300
theorem TmI.lt {w : World} {b2 b3 b6 : Nat} {pre : List (Bool × Nat × Nat × List Int)} {V : Nat → Prop} {W : World} {v : Value} (h : TmI w b2 b3 b6 pre V W v) : ∀ z, V z → z < W.heap.size := by
  intro z hz
  rcases (h.hV z).1 hz with rfl | rfl | rfl | hz
  · exact h.r2.lt
  · exact h.r3.lt
  · exact h.r6.lt
  · exact (World.ownsRow.lt h.tm z hz).2
theorem TmI.step {w : World} {b2 b3 b6 : Nat} {pre : List (Bool × Nat × Nat × List Int)} {V : Nat → Prop} {A B : World} {v : Value} {row : Option Nat} (h : TmI w b2 b3 b6 pre V A v) (hg : A.grownBy B row) (hr : ∀ r, row = some r → ¬ V r ∧ w.heap.size ≤ r) : TmI w b2 b3 b6 pre V B v :=
  ⟨h.hV, h.r2.grown hg (fun e => (hr _ e.symm).1 ((h.hV _).2 (.inl rfl))), h.r3.grown hg (fun e => (hr _ e.symm).1 ((h.hV _).2 (.inr (.inl rfl)))), h.r6.grown hg (fun e => (hr _ e.symm).1 ((h.hV _).2 (.inr (.inr (.inl rfl))))),
   own_keepX h.tm (fun g hgo => hg.block g (World.ownsRow.lt h.tm g hgo).2 (fun e => (hr _ e.symm).1 ((h.hV _).2 (.inr (.inr (.inr hgo)))))), h.bl.grown hg h.bl.size (fun k e => (hr k e).2), h.ln⟩

theorem cell0 {w : World} {b : Nat} {t : TypeId} {v : Value} (h : RowAt w b t #[v]) : w.cell? ⟨b, 0, none⟩ = some v := by rw [cell_of_row _ _ _ _ _ _ h]; rfl
/-- A whole number is stored, as an operation. -/
theorem store_whole_wp {op : Oper} {a : Act} {w : World} {K : Act → World → Prop} {Q : Exit → Act → World → Prop} (x y : Operand) (ho : op.op = .store 69 x y) (hd : op.dst = none)
    (b : Nat) (g : Bool) (u : Int) (p : List Int) (hx : a.eval x = .pointer (some ⟨b, 0, none⟩)) (hy : a.eval y = .agg (wholeC g u p)) (g0 : Bool) (u0 : Int) (p0 : List Int) (hN : WholeAt w b g0 u0 p0) (h0 : p0.length = 204) (hl : p.length = 204)
    (h : ∀ w', WholeAt w' b g u p → w.grownBy w' (some b) → w'.heap.size = w.heap.size → K a w') : op.wp Tryd.prog a w K Q := by
  refine wp_store_row 69 x y ho b (wholeC g u p) hx hy 69 (wholeC g0 u0 p0) hN (whole_info g u p hl) (by rw [wholeC_size, wholeC_size, h0, hl]) (wholeC_one _ _ _) ?_
  rw [hd]
  exact h _ (setRow_heap w b _ _ _ _ hN) ⟨rfl, rfl, rfl, by simp, fun k _ hne => setRow_other w b k _ (by intro e; exact hne (by rw [e]))⟩ (by simp)
theorem late5 {S f : World → Prop} {L : Array Bool} {w : World} (h0 : S w) (h1 : L.getD 5 false = true ∨ f w) : BL.LateAll [(5, f)] S L w := by
  refine ⟨h0, fun p hp => ?_⟩
  simp only [List.mem_cons, List.not_mem_nil, or_false] at hp
  subst hp
  exact h1
theorem not5 {f : World → Prop} (i : Nat) (h1 : 5 ≠ i) : ∀ p ∈ ([(5, f)] : List (Nat × (World → Prop))), p.1 ≠ i := by
  intro p hp
  simp only [List.mem_cons, List.not_mem_nil, or_false] at hp
  subst hp
  exact h1
/-- A region's list of operations, in a round. -/
theorem list_round (l n : Nat) {P : Program} {ops : Array Oper} {Q : Exit → Act → World → Prop} (hL : ¬ LetsOut Q) : ∀ (rest : List Oper) (a : Act) (w : World), (rest.all fun o => match o.op with | .defer _ => false | _ => true) = true → wpList P ops Q rest a w → wpListIn (Fence.wide.inRound l) n P ops Q rest a w
  | [], a, w, _, h => h
  | o :: rest, a, w, hd, h => by
    rw [List.all_cons, Bool.and_eq_true] at hd
    unfold wpList at h
    unfold wpListIn
    split
    · rename_i hw
      rw [if_pos hw] at h
      refine oper_round l n (fun c e => by have h1 := hd.1; rw [e] at h1; cases h1) (Oper.wp_mono (fun a w => list_round l n hL rest a w hd.2) (h.resolve_right (fun h => hL h.2)))
    · rename_i hw
      rw [if_neg hw] at h
      exact ⟨fun _ _ => trivial, list_round l n hL rest _ w hd.2 h⟩
/-- How a round of TermsOf begins. -/
def tmAct (s : ByteArray) (b2 b4 b6 b7 : Nat) (g : Bool) (k j : Nat) (p q : List Int) (x : Bool × Nat × Nat × List Int) : Act :=
  { tmps := #[.string s, undef, .pointer (some ⟨b2, 0, none⟩), .pointer (some ⟨b2 + 1, 0, none⟩), .pointer (some ⟨b4, 0, none⟩), .bool true, .pointer (some ⟨b6, 0, none⟩), .pointer (some ⟨b7, 0, none⟩),
      .tuple #[.agg (numC g k p j q), .bool true], .string s, .tuple #[.agg (numC g k p j q), .bool true], .agg (numC g k p j q), .bool true, .bool true, .bool false, .agg (numC g k p j q),
      .func (.func 74) #[] #[.pointer (some ⟨b6 + 1, 0, none⟩)], .agg (wholeC x.1 x.2.2.1 x.2.2.2), undef, undef, undef, undef, undef, undef, undef, undef, undef], defers := [] }

set_option maxRecDepth 100000 in
set_option maxHeartbeats 8000000 in
theorem implTerms_any (s : ByteArray) (w : World) (hs : s.size ≤ maxLen) (hT : Tab w.heap.size w) :
    Calls Tryd.prog 14 #[.string s] w fun e w' => TmAns s w e w' ∧ Below w.heap.size w w' := by
  refine (callsIn_wide (n := 4)).1 ?_
  have HT := hideT' hT
  have hz2 := zero_num.1
  have HRN := hideT' (fun W => readNum_any s W hs)
  clear hT
  obtain ⟨w2, hw2⟩ : ∃ w2, w2 = (w.alloc (.cells #[.slice none 0 0] 25)).alloc (.cells #[.bool false] 4) := ⟨_, rfl⟩
  have hB2 : Below w.heap.size w w2 := by rw [hw2]; exact ((Below.refl _ _).alloc (Nat.le_refl _) _).alloc (by simp) _
  have hs2 : w2.heap.size = w.heap.size + 2 := by rw [hw2]; simp
  have hR2 : RowAt w2 w.heap.size 25 #[.slice none 0 0] := by rw [hw2]; exact RowAt.old (RowAt.new _ _ _) _
  have hR3 : RowAt w2 (w.heap.size + 1) 4 #[.bool false] := by
    rw [hw2]
    have := RowAt.new (w.alloc (.cells #[.slice none 0 0] 25)) 4 #[.bool false]
    rwa [World.size_alloc] at this
  have HW2 := hideT' (And.intro hB2 (And.intro hs2 (And.intro hR2 hR3)))
  clear hB2 hs2 hR2 hR3
  refine callsIn_of_wp_marks Tryd.func14 rfl trivial ?_ rfl
  simp only [Tryd.ntmps14, List.size_toArray, List.length_cons, List.length_nil, Nat.reduceAdd, Nat.reduceSub, Array.replicate_succ, Array.replicate_zero, List.push_toArray, List.append_toArray, List.nil_append, List.cons_append]
  refine wpIn_seq_k fun K0 hK0 => ?_
  have HK0 := hideT' hK0
  clear hK0
  refine wpIn_wide.2 ?_
  go_wp2_with fail
  refine HK0.out _ _ ?_
  clear HK0
  rw [← hw2]
  clear hw2
  refine wpIn_seq_k fun K1 hK1 => ?_
  have HK1 := hideT' hK1
  clear hK1
  refine wpIn_wide.2 ?_
  go_wp2_with fail
  refine (HRN.out w2).mono ?_
  rintro e w3 ⟨⟨g, k, j, p, q, rfl, hp, hq, hN⟩, hB3⟩
  have HN := hideT' hN
  have N4 := NumAt.new w3 false 0 zP 0 zP
  have HB3 := hideT' hB3
  clear hN hB3 HRN
  go_wp2_with (first | (refine store_num rfl (.tmp 4) _ rfl rfl w3.heap.size g k p j q rfl rfl false 0 zP 0 zP N4 zP_len zP_len hp hq ?_; intro w4 hN4 hg4 hs4))
  refine HK1.out _ _ ?_
  clear HK1 N4
  have hB34 : Below w3.heap.size w3 w4 := ((Below.refl _ _).alloc (Nat.le_refl _) _).grown hg4 (by simp) (by intro k hk; cases hk; exact Nat.le_refl _)
  have hz3 := HB3.out.size
  have hs23 : w2.heap.size = w.heap.size + 2 := HW2.out.2.1
  have hB4 : Below w.heap.size w w4 := (HW2.out.1.trans (HB3.out.mono (by omega))).trans (hB34.mono (by omega))
  have hR24 : RowAt w4 w.heap.size 25 #[.slice none 0 0] := (HW2.out.2.2.1.below HB3.out (by omega)).below hB34 (by omega)
  have hR34 : RowAt w4 (w.heap.size + 1) 4 #[.bool false] := (HW2.out.2.2.2.below HB3.out (by omega)).below hB34 (by omega)
  have hs4' : w4.heap.size = w3.heap.size + 1 := by rw [hs4]; simp
  clear hB34 hg4 hs4
  cases hok : okN s.data.toList with
  | false =>
    have c2 := cell_of_row w4 w.heap.size 0 _ _ _ hR24
    have c3 := cell_of_row w4 (w.heap.size + 1) 0 _ _ _ hR34
    have f2 : w4.frozen? ⟨w.heap.size, 0, none⟩ = false := frozen_of_row w4 _ _ _ _ hR24
    have f3 : w4.frozen? ⟨w.heap.size + 1, 0, none⟩ = false := frozen_of_row w4 _ _ _ _ hR34
    have HF := hideT' (And.intro hR24 (And.intro hR34 hB4))
    clear hR24 hR34 hB4 hN4 hs4' hz3 hs23
    gi_wp2
    have hst2 : RowAt (w4.setCell ⟨w.heap.size, 0, none⟩ (.slice none 0 0)) w.heap.size 25 #[.slice none 0 0] := heap_setCell_same w4 w.heap.size 0 _ _ (.slice none 0 0) HF.out.1
    have hg2 := grown_set w4 w.heap.size 0 (.slice none 0 0)
    have hst3 : RowAt ((w4.setCell ⟨w.heap.size, 0, none⟩ (.slice none 0 0)).setCell ⟨w.heap.size + 1, 0, none⟩ (.bool false)) (w.heap.size + 1) 4 #[.bool false] := heap_setCell_same _ (w.heap.size + 1) 0 _ _ (.bool false) (HF.out.2.1.grown hg2 (by simp))
    have hg3 := grown_set (w4.setCell ⟨w.heap.size, 0, none⟩ (.slice none 0 0)) (w.heap.size + 1) 0 (.bool false)
    exact ⟨_, res_tm Tryd.results14 rfl rfl (hst2.grown hg3 (by simp)) hst3, .inr ⟨by unfold tmOk; rw [hok]; rfl, rfl⟩, (HF.out.2.2.grown hg2 HF.out.2.2.size (by intro k hk; cases hk; omega)).grown hg3 (by have := hg2.size; have := HF.out.2.2.size; omega) (by intro k hk; cases hk; omega)⟩
  | true =>
    obtain ⟨hg, hP, hQ, hk, hj, hj0⟩ := HN.out hok
    obtain ⟨N, hNN⟩ : ∃ N, N = topN s.data.toList := ⟨_, rfl⟩
    obtain ⟨D, hDD⟩ : ∃ D, D = botN s.data.toList := ⟨_, rfl⟩
    have hD0 : D ≠ 0 := by rw [hDD]; exact okN_bot' hok
    have hg0 : g = true → N ≠ 0 := fun h => by rw [hNN]; exact okN_neg' hok (hg.symm.trans h)
    rw [← hNN] at hP
    rw [← hDD] at hQ
    obtain ⟨L, hL⟩ : ∃ L, L = trm g N D := ⟨_, rfl⟩
    have HLL : Hid (L = trm (negN s.data.toList) (topN s.data.toList) (botN s.data.toList)) := by unfold Hid; rw [hL, hg, hNN, hDD]
    have HOK := hideT' hok
    obtain ⟨b6, hb6⟩ : ∃ b6, b6 = w4.heap.size := ⟨_, rfl⟩
    obtain ⟨w6, hw6⟩ : ∃ w6, w6 = (w4.alloc (.cells #[.slice none 0 0] 25)).alloc (.cells (numC g k p j q) 71) := ⟨_, rfl⟩
    have hs6 : w6.heap.size = b6 + 2 := by rw [hw6, hb6]; simp
    have hb62 : w.heap.size + 1 < b6 := by omega
    have hB46 : Below w4.heap.size w4 w6 := by rw [hw6]; exact ((Below.refl _ _).alloc (Nat.le_refl _) _).alloc (by simp) _
    have hR26 := hR24.below hB46 (by omega)
    have hR36 := hR34.below hB46 (by omega)
    have hR66 : RowAt w6 b6 25 #[.slice none 0 0] := by rw [hw6, hb6]; exact RowAt.old (RowAt.new _ _ _) _
    have hN66 : NumAt w6 (b6 + 1) g k p j q := by
      rw [hw6, hb6]
      have := NumAt.new (w4.alloc (.cells #[.slice none 0 0] 25)) g k p j q
      rwa [World.size_alloc] at this
    have hB6 : Below w.heap.size w w6 := hB4.trans (hB46.mono (by omega))
    have HI0 : Hid (TmI w w.heap.size (w.heap.size + 1) b6 [] (fun z => z = w.heap.size ∨ z = w.heap.size + 1 ∨ z = b6) w6 (.slice none 0 0)) :=
      ⟨fun z => by simp [Value.ownBlock], hR26, hR36, hR66, TmS.nil _ _, hB6, Nat.zero_le _⟩
    have HN66 := hideT' hN66
    have hN5 := RowAt.old hN4 (.cells #[.slice none 0 0] 25)
    have HSEQ := hideT' (terms_seq (b6 + 1) g N D k j p q hP hQ hk hj hD0 hg0)
    rw [← hL] at HSEQ
    clear hok hg hP hQ hk hj hj0 hNN hDD hD0 hg0 hL hR24 hR34 hB4 hB46 hR26 hR36 hR66 hN66 hB6 hN4 HN HW2 HB3 hs4' hz3 hs23
    have HB6 := hideT' hb6
    gi_wp2
    refine wpIn_val (v := .agg (numC g k p j q)) (run_num0 (.tmp 4) rfl w3.heap.size rfl g k p j q hN5 hp hq) ?_
    gi_wp2
    refine ⟨trivial, ?_⟩
    gi_at_call 44
    refine (callsIn_wide.2 (terms_any g k p j q _)).mono ?_
    rintro e w7 ⟨rfl, hw7⟩
    rw [← hw6] at hw7
    subst hw7
    simp only [World.size_alloc, ← hb6]
    clear hb6
    gi_wp2
    refine range_ret (gf := 74) (lb := #[.pointer (some ⟨b6 + 1, 0, none⟩)]) (by rfl) (enters_of Tryd.func74 (by kernel_rfl) rfl) encT (fun x => rfl) _ _ _ HSEQ.out
      (fun pre x V V' W hVV h => h)
      (fun pre V W => ∃ v, TmI w w.heap.size (w.heap.size + 1) b6 pre V W v) (fun s V A ⟨v, h⟩ => h.lt) (fun s V A B row ⟨v, h⟩ hg hr => ⟨v, h.step hg (fun r e => ⟨(hr r e).1, by have := (hr r e).2; omega⟩)⟩) (fun z => z = w.heap.size ∨ z = w.heap.size + 1 ∨ z = b6) ⟨_, HI0.out⟩ ?need
      (fun pre x V c W => ∃ v b7, c = tmAct s w.heap.size w3.heap.size b6 b7 g k j p q x ∧ TmI w w.heap.size (w.heap.size + 1) b6 pre V W v ∧ WholeAt W b7 x.1 x.2.2.1 x.2.2.2 ∧ ¬ V b7 ∧ b6 < b7 ∧ TNx L pre x V W) ?ax
      (fun W => RowAt W w.heap.size 25 #[.slice none 0 0] ∧ RowAt W (w.heap.size + 1) 4 #[.bool false] ∧ Below w.heap.size w W ∧ ¬ L.length ≤ 300) ?rf ?assign ?body ?leave ?done
    case need =>
      intro B V hg hV
      refine ⟨RowAt.grown HN66.out hg (by simp), fun h => ?_⟩
      rcases hV _ h with h | h
      · omega
      · omega
    case ax =>
      rintro s' x V c A B row ⟨v, b7, h1, h2, h3, h4, h5, h6⟩ hg hr
      exact ⟨v, b7, h1, h2.step hg (fun r e => ⟨(hr r e).1.1, by have := (hr r e).1.2; omega⟩), row_sameT h3 hg (fun r e => (hr r e).2), h4, h5, h6⟩
    case rf =>
      rintro A B row ⟨h2, h3, hB, hl⟩ hg hr
      exact ⟨row_sameT h2 hg (fun r e => (hr r e).2), row_sameT h3 hg (fun r e => (hr r e).2), hB.grown hg hB.size (fun k e => by have := (hr k e).1; omega), hl⟩
    case assign =>
      intro l pre x V W K hNx hI hK
      have HK := hideT' hK
      have HNX := hideT' hNx
      have hz1 := zero_whole.1
      have hxl := hNx.2.1.len
      obtain ⟨v, hI⟩ := hI
      have HI := hideT' hI
      have N7 := WholeAt.new W false 0 zP
      have hb6l := hI.r6.lt
      unfold encT
      clear hI hK hNx
      refine wpIn_region_list (list_round l _ (fun ⟨_, _, h⟩ => h) _ _ _ (by kernel_rfl) ?_)
      go_wp2_with (refine store_whole rfl (.tmp 7) (.tmp 17) rfl rfl W.heap.size x.1 x.2.2.1 x.2.2.2 rfl rfl false 0 zP N7 zP_len hxl ?_; intro W2 hN2 hg2 hs2)
      have hB2 : Below W.heap.size W W2 := ((Below.refl _ _).alloc (Nat.le_refl _) _).grown hg2 (by simp) (by intro k hk; cases hk; exact Nat.le_refl _)
      have hI2 := HI.out.step (row := none) ⟨hB2.os, hB2.tape, hB2.output, hB2.size, fun k hk _ => hB2.block k hk⟩ (fun r e => by cases e)
      have HF : Hid (TmI w w.heap.size (w.heap.size + 1) b6 pre V W2 v ∧ WholeAt W2 W.heap.size x.1 x.2.2.1 x.2.2.2 ∧ Below W.heap.size W W2) := ⟨hI2, hN2, hB2⟩
      clear hI2 hN2 hB2 hg2 hs2 N7
      exact HK.out _ _ V ⟨v, W.heap.size, rfl, HF.out.1, HF.out.2.1, fun h => by have := HI.out.lt _ h; omega, hb6l, HNX.out⟩ (MoreB.refl _ _) (KeepsB.below HF.out.2.2)
    case body =>
      rintro l pre x V c W ⟨v, b7, rfl, hI, hW7, hV7, hb7, hNx⟩
      unfold tmAct
      obtain ⟨ov, cap, hvv⟩ := own_formX hI.tm
      have hlen : ((tmsOf pre).map tmB).length = pre.length := by simp [tmsOf]
      rw [hlen] at hvv
      subst hvv
      have HI := hideT' hI
      have HNX := hideT' hNx
      have c6 := cell0 hI.r6
      have hw6l := hI.r6.lt
      have hw7l := RowAt.lt hW7
      by_cases h300 : (pre.length : Int) = 300
      · have h300b : ((pre.length : Int) == 300) = true := by simpa using h300
        have c2 := cell0 hI.r2
        have c3 := cell0 hI.r3
        have f2 : W.frozen? ⟨w.heap.size, 0, none⟩ = false := frozen_of_row W _ _ _ _ hI.r2
        have f3 : W.frozen? ⟨w.heap.size + 1, 0, none⟩ = false := frozen_of_row W _ _ _ _ hI.r3
        have HL3 : Hid (¬ L.length ≤ 300) := by
          obtain ⟨⟨post, hpo⟩, _⟩ := HNX.out
          unfold Hid
          rw [hpo, List.length_append, List.length_map, List.length_cons]
          omega
        clear hI hNx hW7 h300
        gi_wp2
        have hst2 : RowAt (W.setCell ⟨w.heap.size, 0, none⟩ (.slice none 0 0)) w.heap.size 25 #[.slice none 0 0] := heap_setCell_same W w.heap.size 0 _ _ (.slice none 0 0) HI.out.r2
        have hg2 := grown_set W w.heap.size 0 (.slice none 0 0)
        have hst3 : RowAt ((W.setCell ⟨w.heap.size, 0, none⟩ (.slice none 0 0)).setCell ⟨w.heap.size + 1, 0, none⟩ (.bool false)) (w.heap.size + 1) 4 #[.bool false] := heap_setCell_same _ (w.heap.size + 1) 0 _ _ (.bool false) (HI.out.r3.grown hg2 (by simp))
        have hg3 := grown_set (W.setCell ⟨w.heap.size, 0, none⟩ (.slice none 0 0)) (w.heap.size + 1) 0 (.bool false)
        have hbl := HI.out.bl.size
        refine ⟨⟨hst2.grown hg3 (by simp), hst3, (HI.out.bl.grown hg2 hbl (by intro k hk; cases hk; omega)).grown hg3 (by have := hg2.size; omega) (by intro k hk; cases hk; omega), HL3.out⟩, (KeepsB.grown hg2 (fun r e => by cases e; exact .inl ((HI.out.hV _).2 (.inl rfl)))).trans (MoreB.refl _ _) (KeepsB.grown hg3 (fun r e => by cases e; exact .inl ((HI.out.hV _).2 (.inr (.inl rfl)))))⟩
      · have h300b : ((pre.length : Int) == 300) = false := by simpa using h300
        have hp3 : pre.length + 1 ≤ 300 := by have := hI.ln; omega
        have hbl := hI.bl.size
        have HTW : Hid (Tab W.heap.size W) := (HT.out.on hI.bl).up hbl
        have HBO : Hid ((Value.slice ov pre.length cap).ownBlock ≠ some b6) := fun e => by have := (World.ownsRow.lt hI.tm _ e).1; omega
        have HBX : Hid ((Value.slice ov pre.length cap).ownBlock ≠ some b7) := fun e => hV7 ((hI.hV _).2 (.inr (.inr (.inr e))))
        have HO : Hid (W.ownsRow (b6 + 1) 9 1 (.slice ov pre.length cap) pre.length (((tmsOf pre).map tmB).flatMap stringL)) := by unfold Hid; have h := TmS.own hI.tm; rw [hlen] at h; exact h
        have hxl := hNx.2.1.len
        have HW7 := hideT' hW7
        obtain ⟨i0, hi0, hzz0, hzz1, hzz2⟩ := str_info
        clear hI hNx h300 hlen
        gi_wp2
        refine manyRT [(5, fun w' => RowAt w' b6 25 #[.slice ov pre.length cap])] (fun w' => WholeAt w' b7 x.1 x.2.2.1 x.2.2.2) (by kernel_rfl) (by kernel_rfl) ?_
        have R6 : RowAt W.drew b6 25 #[.slice ov pre.length cap] := HI.out.r6
        have X7 : WholeAt W.drew b7 x.1 x.2.2.1 x.2.2.2 := HW7.out
        refine BL.many_val 0 (some 21) rfl rfl (by kernel_rfl) (by kernel_rfl) (by kernel_rfl) [4, 5] (by kernel_rfl) (not5 0 (by decide)) calmT_put rfl (.slice ov pre.length cap) (fun w' h => BL.run_cell1 (.tmp 6) 25 rfl ⟨b6, 0, none⟩ rfl _ Tryd.underlying25 rfl (cell0 (h.2 (5, fun w' => RowAt w' b6 25 #[.slice ov pre.length cap]) (List.mem_singleton.2 rfl) (show (5 : Nat) ∈ [4, 5] by decide)))) (late5 X7 (.inr R6)) ?_
        simp only [Act.put, List.setIfInBounds_toArray, List.set_cons_zero, List.set_cons_succ]
        refine BL.many_val 1 (some 22) rfl rfl (by kernel_rfl) (by kernel_rfl) (by kernel_rfl) [] (by kernel_rfl) (not5 1 (by decide)) calmT_put rfl (.agg (wholeC x.1 x.2.2.1 x.2.2.2)) (fun w' h => run_mid_whole (.tmp 7) rfl b7 0 rfl x.1 x.2.2.1 x.2.2.2 (WholeAt.all h.1) hxl) (late5 X7 (.inr R6)) ?_
        simp only [Act.put, List.setIfInBounds_toArray, List.set_cons_zero, List.set_cons_succ]
        refine many_callT 2 (some 23) (by kernel_rfl) rfl rfl rfl 45 #[.agg (wholeC x.1 x.2.2.1 x.2.2.2), .int .i64 10] (by go_simp) _ (wholeText_any x.1 10 10 W.drew HNX.out.2.1 HNX.out.2.2 rfl (by decide) (by decide) (HTW.out.on (Below.refl W.heap.size W).drew)) ?_
        rintro e w5 ⟨str, rfl, hstr, hW5⟩
        have hW5 : Below W.heap.size W w5 := ⟨hW5.os, hW5.tape, hW5.output, hW5.size, hW5.block⟩
        have hs5 := hW5.size
        have HSTR : Hid (str = tmB (prT x)) := tmB_whole hstr
        have keepS : ∀ w', (∀ b, b < W.heap.size → (Value.slice ov pre.length cap).ownBlock ≠ some b → w'.heap[b]? = W.heap[b]?) → RowAt w' b6 25 #[.slice ov pre.length cap] ∧ WholeAt w' b7 x.1 x.2.2.1 x.2.2.2 := fun w' hk =>
          ⟨by unfold RowAt; rw [hk _ hw6l HBO.out]; exact HI.out.r6, by unfold WholeAt RowAt; rw [hk _ hw7l HBX.out]; exact HW7.out⟩
        have hS1 := keepS w5 (fun b hb _ => hW5.block b hb)
        refine ⟨_, rfl, late5 hS1.2 (.inr hS1.1), ?_⟩
        clear hstr
        simp only [Act.put, List.setIfInBounds_toArray, List.set_cons_zero, List.set_cons_succ]
        have hS2 := keepS (w5.alloc (.cells #[.string str] 9)) (fun b hb _ => by rw [Below.heap_alloc _ _ _ (by omega)]; exact hW5.block b hb)
        refine BL.many_ready 3 (some 24) (by kernel_rfl) rfl rfl rfl (.slice (some ⟨w5.heap.size, 0, none⟩) 1 1) (w5.alloc (.cells #[.string str] 9)) (by go_simp) (late5 hS2.2 (.inr hS2.1)) ?_
        simp only [Act.put, List.setIfInBounds_toArray, List.set_cons_zero, List.set_cons_succ]
        have hO5 : w5.ownsRow (b6 + 1) 9 1 (.slice ov pre.length cap) pre.length (((tmsOf pre).map tmB).flatMap stringL) := own_keepX HO.out (fun b hb => hW5.block b (HO.out.lt b hb).2)
        refine BL.many_one 4 (by kernel_rfl) rfl rfl fun K hK => ?_
        refine BL.append_own3_wp _ _ _ 25 rfl (b6 + 1) 9 i0 (.string ⟨#[]⟩) 1 16 Tryd.underlying25 hi0 hzz0 hzz1 hzz2 rfl (by decide) (.slice ov pre.length cap) pre.length _ rfl (hO5.alloc _) ⟨w5.heap.size, 0, none⟩ 1 1 [.string str] rfl rfl (one_new _ _) (str_one _) (by omega) (by unfold maxLen; omega) (by omega) (by simp; omega) ?_
        intro v6 w6 hv6 hg6 hb6o
        have hs6 := hg6.size
        simp only [World.size_alloc] at hs6 hb6o
        have hgx : ∀ b, b < W.heap.size → (Value.slice ov pre.length cap).ownBlock ≠ some b → w6.heap[b]? = W.heap[b]? := fun b hb hbo => by
          rw [hg6.block b (by simp; omega) (fun e => hbo e.symm), Below.heap_alloc _ _ _ (by omega)]; exact hW5.block b hb
        have hS6 := keepS w6 hgx
        refine hK.out _ _ (late5 hS6.2 (.inr hS6.1)) ?_
        simp only [Act.put, List.setIfInBounds_toArray]
        obtain ⟨o6, c6', rfl⟩ := own_formX hv6
        refine BL.many_one 5 (by kernel_rfl) rfl rfl fun K8 hK8 => ?_
        refine BL.store_at_wp 25 _ _ rfl rfl b6 0 (.slice o6 (pre.length + 1) c6') rfl rfl (by kernel_rfl) rfl 25 #[.slice ov pre.length cap] hS6.1 (show 0 < 1 by omega) ?_
        intro w7 hR7 hg7 hs7
        have hS7 : WholeAt w7 b7 x.1 x.2.2.1 x.2.2.2 := RowAt.grown hS6.2 hg7 (by simp; omega)
        refine hK8.out _ _ (late5 hS7 (.inl rfl)) ?_
        refine BL.many_done (by kernel_rfl) ?_ _
        refine CalmT.normal ?_
        have hob : ∀ z, z < W.heap.size → ¬ V z → w7.heap[z]? = W.heap[z]? := fun z hz hv => by
          rw [hg7.block z (by omega) (by intro e; injection e with e; exact hv ((HI.out.hV z).2 (.inr (.inr (.inl e)))))]
          exact hgx z hz (fun e => hv ((HI.out.hV z).2 (.inr (.inr (.inr e)))))
        have hr2 : RowAt w7 w.heap.size 25 #[.slice none 0 0] := by
          have h : RowAt w6 w.heap.size 25 #[.slice none 0 0] := by unfold RowAt; rw [hgx _ HI.out.r2.lt (fun e => by have := (HO.out.lt _ e).1; omega)]; exact HI.out.r2
          exact h.grown hg7 (by simp; omega)
        have hr3 : RowAt w7 (w.heap.size + 1) 4 #[.bool false] := by
          have h : RowAt w6 (w.heap.size + 1) 4 #[.bool false] := by unfold RowAt; rw [hgx _ HI.out.r3.lt (fun e => by have := (HO.out.lt _ e).1; omega)]; exact HI.out.r3
          exact h.grown hg7 (by simp; omega)
        have htm : TmS w7 (b6 + 1) (.slice o6 (pre.length + 1) c6') (tmsOf (pre ++ [x])) := by
          have h1 := TmS.put (l := tmsOf pre) hv6 (by simp [tmsOf]) (prT x) HSTR.out rfl
          have e : tmsOf (pre ++ [x]) = tmsOf pre ++ [prT x] := by simp [tmsOf]
          rw [e]
          exact own_keepX h1 (fun b hb => hg7.block b (World.ownsRow.lt h1 b hb).2 (by intro e; injection e with e; have := (World.ownsRow.lt h1 b hb).1; omega))
        refine ⟨fun z => z = w.heap.size ∨ z = w.heap.size + 1 ∨ z = b6 ∨ (Value.slice o6 (pre.length + 1) c6').ownBlock = some z, ⟨_, fun z => Iff.rfl, hr2, hr3, hR7, htm, ?_, by rw [List.length_append]; exact hp3⟩, ?_, ⟨by omega, hob⟩⟩
        · refine HI.out.bl.trans ⟨hg7.os.trans (hg6.os.trans hW5.os), hg7.tape.trans (hg6.tape.trans hW5.tape), hg7.output.trans (hg6.output.trans hW5.output), by omega, fun j hj => ?_⟩
          exact hob j (by omega) (fun h => by
            rcases (HI.out.hV j).1 h with e | e | e | e
            · omega
            · omega
            · omega
            · have := (HO.out.lt j e).1; omega)
        · intro z hz
          rcases hz with rfl | rfl | rfl | hz
          · exact .inl ((HI.out.hV _).2 (.inl rfl))
          · exact .inl ((HI.out.hV _).2 (.inr (.inl rfl)))
          · exact .inl ((HI.out.hV _).2 (.inr (.inr (.inl rfl))))
          · rcases hb6o with h | h
            · exact .inl ((HI.out.hV z).2 (.inr (.inr (.inr (by rw [← h]; exact hz)))))
            · rw [h] at hz
              injection hz with hz
              exact .inr (by omega)
    case leave =>
      rintro D W hD ⟨h2, h3, hB, hl⟩ hK
      have HF := hideT' (And.intro h2 (And.intro h3 (And.intro hB (And.intro hl hK))))
      clear h2 h3 hB hl hK
      gi_wp2
      exact leave_marksT (v := .tuple #[.slice none 0 0, .bool false]) HF.out.2.2.2.2 (res_tm Tryd.results14 rfl rfl (row_putT HF.out.1 HF.out.2.2.2.2 rfl) (row_putT HF.out.2.1 HF.out.2.2.2.2 rfl)) ⟨.inr ⟨by unfold tmOk; rw [HOK.out, ← HLL.out, decide_eq_false HF.out.2.2.2.1]; rfl, rfl⟩, below_putT HF.out.2.2.1 (by omega) HF.out.2.2.1.size⟩
    case done =>
      rintro D ys V W hD hS ⟨v, hI⟩ hVD hK
      obtain ⟨ov, cap, hvv⟩ := own_formX hI.tm
      have hlen : ((tmsOf ys).map tmB).length = ys.length := by simp [tmsOf]
      rw [hlen] at hvv
      subst hvv
      have HI := hideT' hI
      have HK := hideT' hK
      have c6 := cell0 hI.r6
      have c2 := cell0 hI.r2
      have c3 := cell0 hI.r3
      have f2 : W.frozen? ⟨w.heap.size, 0, none⟩ = false := frozen_of_row W _ _ _ _ hI.r2
      have f3 : W.frozen? ⟨w.heap.size + 1, 0, none⟩ = false := frozen_of_row W _ _ _ _ hI.r3
      have HLE : Hid (L.length ≤ 300) := by unfold Hid; rw [← hS, List.length_map]; exact hI.ln
      have HSS := hideT' hS
      clear hI hK hS hlen
      gi_wp2
      obtain ⟨vv, hvv⟩ : ∃ vv, vv = Value.slice ov ys.length cap := ⟨_, rfl⟩
      rw [← hvv] at HI ⊢
      have hst2 : RowAt (W.setCell ⟨w.heap.size, 0, none⟩ vv) w.heap.size 25 #[vv] := heap_setCell_same W w.heap.size 0 _ _ vv HI.out.r2
      have hg2 := grown_set W w.heap.size 0 vv
      have hst3 : RowAt ((W.setCell ⟨w.heap.size, 0, none⟩ vv).setCell ⟨w.heap.size + 1, 0, none⟩ (.bool true)) (w.heap.size + 1) 4 #[.bool true] := heap_setCell_same _ (w.heap.size + 1) 0 _ _ (.bool true) (HI.out.r3.grown hg2 (by simp))
      have hg3 := grown_set (W.setCell ⟨w.heap.size, 0, none⟩ vv) (w.heap.size + 1) 0 (.bool true)
      have hbl := HI.out.bl.size
      have hD2 : D ≠ w.heap.size ∧ D ≠ w.heap.size + 1 := by omega
      have hKW : ((W.setCell ⟨w.heap.size, 0, none⟩ vv).setCell ⟨w.heap.size + 1, 0, none⟩ (.bool true)).heap[D]? = some (.deferred (some [])) := by
        rw [heap_setCell_other _ ⟨w.heap.size + 1, 0, none⟩ D _ (fun e => hD2.2 e), heap_setCell_other W ⟨w.heap.size, 0, none⟩ D _ (fun e => hD2.1 e)]; exact HK.out
      have hBB : Below w.heap.size w ((W.setCell ⟨w.heap.size, 0, none⟩ vv).setCell ⟨w.heap.size + 1, 0, none⟩ (.bool true)) := (HI.out.bl.grown hg2 hbl (by intro k hk; cases hk; omega)).grown hg3 (by have := hg2.size; omega) (by intro k hk; cases hk; omega)
      have htm : TmS ((W.setCell ⟨w.heap.size, 0, none⟩ vv).setCell ⟨w.heap.size + 1, 0, none⟩ (.bool true)) w.heap.size vv L := by
        have h0 := HI.out.tm
        have e : tmsOf ys = L := HSS.out
        rw [e] at h0
        have h1 : TmS ((W.setCell ⟨w.heap.size, 0, none⟩ vv).setCell ⟨w.heap.size + 1, 0, none⟩ (.bool true)) (b6 + 1) vv L := own_keepX (own_keepX h0 (fun b hb => hg2.block b (World.ownsRow.lt h0 b hb).2 (by intro e; injection e with e; have := (World.ownsRow.lt h0 b hb).1; omega))) (fun b hb => hg3.block b (by have := (World.ownsRow.lt h0 b hb).2; have := hg2.size; omega) (by intro e; injection e with e; have := (World.ownsRow.lt h0 b hb).1; omega))
        exact ⟨h1.1, h1.2.imp id fun ⟨g, cap, cur, h1, h2, h3⟩ => ⟨g, cap, cur, h1, by omega, h3⟩⟩
      exact leave_marksT (v := .tuple #[vv, .bool true]) hKW (res_tm Tryd.results14 rfl rfl (row_putT (hst2.grown hg3 (by simp)) hKW rfl) (row_putT hst3 hKW rfl)) ⟨.inl ⟨by unfold tmOk; rw [HOK.out, ← HLL.out, decide_eq_true HLE.out]; rfl, _, rfl, by
        rw [← HLL.out]
        exact ⟨htm.1, htm.2.imp id fun ⟨g, cap, cur, h1, h2, h3, h4⟩ => ⟨g, cap, cur, h1, h2, row_putT h3 hKW rfl, h4⟩⟩⟩, below_putT hBB (by omega) hBB.size⟩
end Go.Proofs.YthbnacikomimfaaDoor

/-
  What the laws' own marks of texts are.
-/
namespace Go.Proofs.YthbnacikomimfaaDoor
open Go.RowKit
set_option linter.unusedVariables false

theorem dec_step (q : Nat) (h : ¬ q < 10) : Lib.decDigits q = Lib.decDigits (q / 10) ++ [db (q % 10)] := by
  rw [Lib.decDigits, dif_neg h]; rfl
theorem dec_one (q : Nat) (h : q < 10) : Lib.decDigits q = [db q] := by
  rw [Lib.decDigits, dif_pos h]; rfl

set_option maxHeartbeats 1000000 in
set_option maxRecDepth 100000 in
theorem markText_any (k : Int) (h0 : 0 < k) (h1 : k ≤ 1099511627776) (w : World) :
    Calls Tryd.prog 46 #[.int .i64 k] w fun e w' => e = .returned (.string (markT k)) ∧ Below w.heap.size w w' := by
  obtain ⟨K, rfl⟩ := Int.eq_ofNat_of_zero_le (Int.le_of_lt h0)
  obtain ⟨x, hx⟩ : ∃ x : Int, x = (K : Int) := ⟨_, rfl⟩
  rw [← hx] at h0 h1 ⊢
  have HX := hideT' hx
  clear hx
  go_enter Tryd.func46, Tryd.ntmps46
  go_wp2_with fail
  go_loopg [0, 3] K (fun g y o wr => ∃ (q : Int) (t : List UInt8), y = .int .i64 q ∧ o = .string ⟨t.toArray⟩ ∧ 0 ≤ q ∧ q ≤ 1099511627776 ∧ Hid (q = (g : Int) ∧ t.length ≤ 20 ∧ (g = 0 → t = Lib.decDigits K) ∧ (0 < g → Lib.decDigits K = Lib.decDigits g ++ t)) ∧ Below w.heap.size w wr)
  case atStart =>
    refine ⟨x, [], by go_num, rfl, by omega, h1, ⟨HX.out, by simp, fun h => ?_, fun _ => by simp⟩, Below.refl _ _⟩
    have := HX.out; omega
  case round =>
    obtain ⟨q, t, rfl, rfl, hq0, hq1, HQ, hW⟩ := hrel
    by_cases hz : q = 0
    · subst hz
      have HT : Hid (t = Lib.decDigits K) := HQ.out.2.2.1 (by have := HQ.out.1; omega)
      have htl := HQ.out.2.1
      have hsz : ¬ 9223372036854775807 < (⟨#[109]⟩ : ByteArray).size + (⟨t.toArray⟩ : ByteArray).size := by
        have : (⟨t.toArray⟩ : ByteArray).size = t.length := by simp [ByteArray.size]
        rw [this]; show ¬ _ < 1 + t.length; omega
      clear htl
      go_wp2
      go_ret
      refine ⟨?_, hW⟩
      unfold markT
      rw [HX.out, Int.toNat_natCast, ← HT.out]
      show Ending.returned (.string ((⟨#[109]⟩ : ByteArray) ++ ⟨t.toArray⟩)) = _
      congr 2
    · have hqp : 0 < q := by omega
      obtain ⟨d, hd⟩ : ∃ d : Nat, d = q.toNat % 10 := ⟨_, rfl⟩
      have hd10 : d < 10 := by omega
      have htm : q.tmod 10 = (d : Int) := by rw [Int.tmod_eq_emod_of_nonneg hq0]; omega
      obtain ⟨r, hr⟩ : ∃ r : Int, r = ((q.toNat / 10 : Nat) : Int) := ⟨_, rfl⟩
      have htd : q.tdiv 10 = r := by rw [Int.tdiv_eq_ediv_of_nonneg hq0]; omega
      have hr0 : 0 ≤ r := by omega
      have hrq : r < q := by omega
      have hw1 : IntKind.i64.wrap r = r := by rw [IntKind.wrap_i64]; omega
      have hw2 : IntKind.i64.wrap (48 + (d : Int)) = 48 + (d : Int) := by rw [IntKind.wrap_i64]; omega
      have hw3 : IntKind.u8.wrap (48 + (d : Int)) = 48 + (d : Int) := by
        have : IntKind.u8.wrap (48 + (d : Int)) = (48 + (d : Int)) % 256 := by simp [IntKind.wrap, IntKind.signed, IntKind.bits]
        rw [this]; omega
      have hcv := conv_new wr d hd10
      have htl := HQ.out.2.1
      have hsz : ¬ 9223372036854775807 < (⟨#[db d]⟩ : ByteArray).size + (⟨t.toArray⟩ : ByteArray).size := by
        have : (⟨t.toArray⟩ : ByteArray).size = t.length := by simp [ByteArray.size]
        rw [this]; show ¬ _ < 1 + t.length; omega
      have HD : Hid (d = q.toNat % 10 ∧ r = ((q.toNat / 10 : Nat) : Int)) := ⟨hd, hr⟩
      have hW2 := hW.alloc hW.size (.cells #[.int .u8 (48 + (d : Int))] 5)
      clear hd hr htl
      go_wp2
      go_roundg r.toNat
      case measure => have := HQ.out.1; omega
      case rel =>
        obtain ⟨e1, e2, e3, e4⟩ := HQ.out
        obtain ⟨e5, e6⟩ := HD.out
        refine ⟨r, db d :: t, by go_num, ?_, hr0, by omega, ⟨by omega, ?_, fun h => ?_, fun h => ?_⟩, hW2⟩
        · show Value.string ((⟨#[db d]⟩ : ByteArray) ++ ⟨t.toArray⟩) = _
          congr 1
        · have h5 := e4 (by omega)
          have h6 := (canon_len_le (dec_canon K).1 20 (by omega)).2 (by rw [(dec_canon K).2]; have := HX.out; omega)
          rw [h5, List.length_append] at h6
          have h7 : 0 < (Lib.decDigits gk).length := by
            by_cases hh : gk < 10
            · rw [dec_one gk hh]; simp
            · rw [dec_step gk hh]; simp
          simp only [List.length_cons]
          omega
        · have h5 := e4 (by omega)
          have hh : gk < 10 := by omega
          rw [dec_one gk hh] at h5
          have : d = gk := by omega
          rw [h5, this]; rfl
        · have h5 := e4 (by omega)
          have hh : ¬ gk < 10 := by omega
          rw [dec_step gk hh] at h5
          have hdd : d = gk % 10 := by omega
          have hrr : r.toNat = gk / 10 := by omega
          rw [h5, hdd, hrr, List.append_assoc]; rfl
theorem run_loadS {o : Oper} {a : Act} {w : World} {x : Operand} {v : Value} {A : Addr} (ho : o.op = .load 9 x) (hx : a.eval x = .pointer (some A)) (hc : w.cell? A = some v) :
    (execOp a.eval o).run Tryd.prog w = .ok (.value v) w := by
  have ha : ∀ w, (isAgg 9).run Tryd.prog w = .ok false w := run_isAgg_plain Tryd.underlying9 rfl
  unfold execOp
  simp only [ho, hx]
  go_simp
theorem ownR_below {w w' : World} {B c n : Nat} {T : TypeId} {v : Value} {xs : List Value} (h : w.ownsRow B T c v n xs) (hB : Below w.heap.size w w') : w'.ownsRow B T c v n xs := by
  refine ⟨h.1, ?_⟩
  rcases h.2 with h1 | ⟨g, cap, cur, h1, h2, h3, h4⟩
  · exact .inl h1
  · have hlt : g < w.heap.size := (Array.getElem?_eq_some_iff.1 h3).1
    exact .inr ⟨g, cap, cur, h1, h2, by rw [hB.block g (by omega)]; exact h3, h4⟩
end Go.Proofs.YthbnacikomimfaaDoor

/-
  Rows of String that are answers: what the laws' own helpers over them say.
-/
namespace Go.Proofs.YthbnacikomimfaaDoor
open Go.RowKit
set_option linter.unusedVariables false
/-- One that is marked. -/
def markString (k : Int) : ByteArray := markT (k)
set_option maxHeartbeats 1000000 in
set_option maxRecDepth 100000 in
theorem eqStringS_in (v1 v2 : Value) (l : List (ByteArray)) (w : World) (hl : l.length ≤ 1048576) (h1 : InR w v1 stringL 1 l) (h2 : InR w v2 stringL 1 l) :
    Calls Tryd.prog 12 #[v1, v2] w fun e w' => e = .returned (.bool true) ∧ Below w.heap.size w w' := by
  obtain ⟨o1, cap1, rfl, h1⟩ := h1
  obtain ⟨o2, cap2, rfl, h2⟩ := h2
  rcases Classical.em (l = []) with rfl | hne
  · clear h1 h2
    go_enter Tryd.func12, Tryd.ntmps12
    go_wp2_with fail
    go_loopg [5] 0 (fun g i wr => i = .int .i64 0 ∧ wr = w)
    case atStart => exact ⟨rfl, rfl⟩
    case round =>
      obtain ⟨rfl, rfl⟩ := hrel
      go_wp2
      go_ret
      exact ⟨rfl, Below.refl _ _⟩
  obtain ⟨b1, rfl, hb1, h1⟩ := h1 hne
  obtain ⟨b2, rfl, hb2, h2⟩ := h2 hne
  have H1 := hideT' h1
  have H2 := hideT' h2
  clear h1 h2 hne
  go_enter Tryd.func12, Tryd.ntmps12
  go_wp2_with fail
  go_loopg [5] l.length (fun g i wr => ∃ k : Nat, g = l.length - k ∧ k ≤ l.length ∧ i = .int .i64 (k : Int) ∧ Below w.heap.size w wr)
  case atStart => exact ⟨0, rfl, by omega, rfl, Below.refl _ _⟩
  case round =>
    obtain ⟨k, hg, hk, rfl, hW⟩ := hrel
    by_cases hlt : (k : Int) < (l.length : Int)
    · have hk' : k < l.length := by omega
      obtain ⟨d, hd⟩ : ∃ d, d = l.getD k default := ⟨_, rfl⟩
      have HDM := hideT' hd
      have h1 := H1.out
      have h2 := H2.out
      clear hd
      have hcb : wr.cell? ⟨b1, k, none⟩ = some (.string d) := by
        have := (h1 k 0 (.string (l.getD k default)) hk' rfl)
        rw [Nat.mul_one, Nat.add_zero, ← HDM.out] at this
        exact (hW.cell (p := ⟨b1, k, none⟩) hb1).trans this
      have hcc : wr.cell? ⟨b2, k, none⟩ = some (.string d) := by
        have := (h2 k 0 (.string (l.getD k default)) hk' rfl)
        rw [Nat.mul_one, Nat.add_zero, ← HDM.out] at this
        exact (hW.cell (p := ⟨b2, k, none⟩) hb2).trans this
      clear h1 h2
      go_wp2_with fail
      go_region
      go_wp2
      go_roundg (l.length - (k + 1))
      case measure => omega
      case rel => exact ⟨k + 1, rfl, by omega, by go_num, hW.drew⟩
    · go_wp2
      go_ret
      exact ⟨rfl, hW⟩
set_option maxHeartbeats 2000000 in
set_option maxRecDepth 100000 in
theorem markStringS_own (v : Value) (n : Nat) (xs0 : List Value) (k : Int) (B : Nat) (w : World) (hk0 : 0 < k) (hk1 : k + 1 * (n : Int) ≤ 1099511627776) (h : w.ownsRow B 9 1 v n xs0) :
    Calls Tryd.prog 15 #[v, .int .i64 k] w fun e w' => e = .returned (.int .i64 (k + 1 * (n : Int))) ∧ OwnR w' B v 9 stringL 1 (markL markString 1 k n) ∧ w.grownBy w' v.ownBlock := by
  rcases h.2 with ⟨rfl, rfl⟩ | ⟨b, cap, cur, rfl, hB, _⟩
  · have hx : k + 1 * ((0 : Nat) : Int) = k := by simp
    rw [hx]
    clear hx hk1
    go_enter Tryd.func15, Tryd.ntmps15
    go_wp2_with fail
    go_loopg [1, 5] 0 (fun g x i wr => x = .int .i64 k ∧ i = .int .i64 0 ∧ wr = w)
    case atStart => exact ⟨rfl, rfl, rfl⟩
    case round =>
      obtain ⟨rfl, rfl, rfl⟩ := hrel
      go_wp2
      go_ret
      exact ⟨rfl, by simpa [OwnR, markL] using World.ownsRow_nil _ _ _ _, ⟨rfl, rfl, rfl, Nat.le_refl _, fun _ _ _ => rfl⟩⟩
  · obtain ⟨N, hN⟩ : ∃ N : Int, N = k + 1 * (n : Int) := ⟨_, rfl⟩
    have HN := hideT' hN
    have HB := hideT' hk1
    clear hN hk1
    go_enter Tryd.func15, Tryd.ntmps15
    go_wp2_with fail
    go_loopg [1, 5] n (fun g x i wr => ∃ (j : Nat) (y : Int) (xs : List Value), g = n - j ∧ j ≤ n ∧ i = .int .i64 (j : Int) ∧ x = .int .i64 y ∧ 0 < y ∧ y ≤ 1099511627776 ∧ Hid (y = k + 1 * (j : Int)) ∧ wr.ownsRow B 9 1 (.slice (some ⟨b, 0, none⟩) n cap) n xs ∧ Hid (Marked stringL markString 1 k j xs) ∧ w.grownBy wr (some b))
    case atStart => exact ⟨0, k, xs0, rfl, by omega, rfl, rfl, by omega, by have := HB.out; omega, by simp [Hid], h, (fun j hj => by omega : Marked stringL markString 1 k 0 xs0), ⟨rfl, rfl, rfl, Nat.le_refl _, fun _ _ _ => rfl⟩⟩
    case round =>
      clear h
      obtain ⟨j, x, xs, hg, hj, rfl, rfl, hx0, hx1, HX, hown, HM, hG⟩ := hrel
      by_cases hlt : (j : Int) < (n : Int)
      · have hj' : j < n := by omega
        have HJ : Hid (j * 1 + 1 ≤ n * 1) := by unfold Hid; omega
        have hx2 : x + 1 ≤ 1099511627776 := by have := HB.out; have := HX.out; omega
        go_wp2_with fail
        refine (markText_any (x) (by omega) (by omega) _).mono ?_
        rintro e v0 ⟨rfl, hB0⟩
        have ownb0 := ownR_below hown hB0
        go_wp2_with (first | (refine store_own rfl 9 _ _ rfl rfl b (j) (.string (markT (x))) rfl rfl size1_str rfl ownb0 (by have := HJ.out; omega) ?_; intro w1 own1 hg1 hs1))
        go_roundg (n - (j + 1))
        case measure => omega
        case rel =>
          have hbb := HB.out
          refine ⟨j + 1, x + 1, _, rfl, by omega, congrArg (Value.int .i64) (by unfold wrap64; omega), congrArg (Value.int .i64) (by omega), by omega, hx2, by have := HX.out; unfold Hid; omega, own1, ?_, (grownX_trans (grownX_trans hG (Below.grownBy' hB0)) hg1)⟩
          intro i hi q hq
          by_cases e : i = j
          · subst e
            have hxe : k + ((1 : Nat) : Int) * (i : Int) = x := by have := HX.out; omega
            rw [hxe]
            have hl1 := hown.1
            match q, hq with
            | 0, _ => simp [List.getElem?_set, stringL, markString]; omega
          · exact (HM.out.set (j) (.string (markT (x))) (by omega)) i (by omega) q hq
      · have hjn : j = n := by omega
        subst hjn
        have hxs := HM.out.all stringL_len hown.1
        rw [hxs] at hown
        have HO := hideT' hown
        clear hown hxs
        have HXN : Hid (x = N) := by unfold Hid; rw [HX.out, HN.out]
        go_wp2
        go_ret
        refine ⟨by show Ending.returned (.int .i64 x) = _; rw [HXN.out, HN.out, Int.one_mul], ?_, hG⟩
        have := HO.out
        unfold OwnR
        rw [markL_len]
        exact this
set_option maxHeartbeats 2000000 in
set_option maxRecDepth 100000 in
theorem heldStringS_in (v : Value) (n : Nat) (k : Int) (w : World) (hk0 : 0 < k) (hk1 : k + 1 * (n : Int) ≤ 1099511627776) (h : InR w v stringL 1 (markL markString 1 k n)) :
    Calls Tryd.prog 16 #[v, .int .i64 k] w fun e w' => e = .returned (.int .i64 (k + 1 * (n : Int))) ∧ Below w.heap.size w w' := by
  obtain ⟨o, cap, rfl, h⟩ := h
  rw [markL_len]
  rcases Nat.eq_zero_or_pos n with rfl | hn
  · have hx : k + 1 * ((0 : Nat) : Int) = k := by simp
    rw [hx]
    clear hx hk1 h
    go_enter Tryd.func16, Tryd.ntmps16
    go_wp2_with fail
    go_loopg [1, 5] 0 (fun g x i wr => x = .int .i64 k ∧ i = .int .i64 0 ∧ wr = w)
    case atStart => exact ⟨rfl, rfl, rfl⟩
    case round =>
      obtain ⟨rfl, rfl, rfl⟩ := hrel
      go_wp2
      go_ret
      exact ⟨rfl, Below.refl _ _⟩
  obtain ⟨b, rfl, hb, h1⟩ := h (by intro e; have := congrArg List.length e; rw [markL_len] at this; simp at this; omega)
  obtain ⟨N, hN⟩ : ∃ N : Int, N = k + 1 * (n : Int) := ⟨_, rfl⟩
  have HN := hideT' hN
  have HB := hideT' hk1
  have H1 := hideT' h1
  clear hN hk1 h1 h
  go_enter Tryd.func16, Tryd.ntmps16
  go_wp2_with fail
  go_loopg [1, 5] n (fun g x i wr => ∃ (j : Nat) (y : Int), g = n - j ∧ j ≤ n ∧ i = .int .i64 (j : Int) ∧ x = .int .i64 y ∧ 0 < y ∧ y ≤ 1099511627776 ∧ Hid (y = k + 1 * (j : Int)) ∧ Below w.heap.size w wr)
  case atStart => exact ⟨0, k, rfl, by omega, rfl, rfl, by omega, by have := HB.out; omega, by simp [Hid], Below.refl _ _⟩
  case round =>
    obtain ⟨j, x, hg, hj, rfl, rfl, hx0, hx1, HX, hW⟩ := hrel
    by_cases hlt : (j : Int) < (n : Int)
    · have hj' : j < n := by omega
      have hx2 : x + 1 ≤ 1099511627776 := by have := HB.out; have := HX.out; omega
      have hxe : k + ((1 : Nat) : Int) * (j : Int) = x := by have := HX.out; omega
      have h1 := H1.out
      have c0 : wr.cell? ⟨b, j, none⟩ = some (.string (markT (x))) := by
        have := h1 j 0 (.string ((markL markString 1 k n).getD j default)) (by rw [markL_len]; exact hj') rfl
        rw [markL_get markString 1 k n j hj', Nat.mul_one, Nat.add_zero, hxe] at this
        exact (hW.cell (p := ⟨b, j, none⟩) hb).trans this
      clear h1 hxe
      go_wp2_with fail
      have hS : wr.drew.cell? ⟨b, j, none⟩ = some (.string (markT (x))) := c0
      refine held_begin (fun w' => w'.cell? ⟨b, j, none⟩ = some (.string (markT (x)))) (by kernel_rfl) ?_
      refine held_val 0 (some 12) rfl rfl (by kernel_rfl) (by kernel_rfl) (by kernel_rfl) noPanic_put rfl (.slice (some ⟨b, 0, none⟩) n cap) (fun _ => rfl) hS ?_
      simp only [Act.put, List.setIfInBounds_toArray, List.set_cons_zero, List.set_cons_succ]
      refine held_val 1 (some 13) rfl rfl (by kernel_rfl) (by kernel_rfl) (by kernel_rfl) noPanic_put rfl (.int .i64 (j : Int)) (fun _ => rfl) hS ?_
      simp only [Act.put, List.setIfInBounds_toArray, List.set_cons_zero, List.set_cons_succ]
      refine held_val 2 (some 14) rfl rfl (by kernel_rfl) (by kernel_rfl) (by kernel_rfl) noPanic_put rfl (.pointer (some ⟨b, j, none⟩)) (fun _ => by go_simp) hS ?_
      simp only [Act.put, List.setIfInBounds_toArray, List.set_cons_zero, List.set_cons_succ]
      refine held_valS 3 (some 15) rfl rfl (by kernel_rfl) (by kernel_rfl) (by kernel_rfl) noPanic_put rfl (.string (markT x)) (fun _ hw' => run_loadS rfl rfl hw') hS ?_
      simp only [Act.put, List.setIfInBounds_toArray, List.set_cons_zero, List.set_cons_succ]
      refine held_val 4 (some 16) rfl rfl (by kernel_rfl) (by kernel_rfl) (by kernel_rfl) noPanic_put rfl (.int .i64 x) (fun _ => rfl) hS ?_
      simp only [Act.put, List.setIfInBounds_toArray, List.set_cons_zero, List.set_cons_succ]
      refine held_call 5 (some 17) (by kernel_rfl) rfl rfl rfl 46 #[.int .i64 (x)] (by go_simp) _ (markText_any (x) (by omega) (by omega) wr.drew) ?_
      rintro e w2 ⟨rfl, hB2⟩
      have hB2 : Below wr.heap.size wr w2 := ⟨hB2.os, hB2.tape, hB2.output, hB2.size, hB2.block⟩
      have hW2 := hW.trans (hB2.mono hW.size)
      have hS2 : w2.cell? ⟨b, j, none⟩ = some (.string (markT (x))) := (hB2.cell (p := ⟨b, j, none⟩) (Nat.lt_of_lt_of_le hb hW.size)).trans c0
      refine ⟨_, rfl, hS2, ?_⟩
      simp only [Act.put, List.setIfInBounds_toArray, List.set_cons_zero, List.set_cons_succ]
      refine held_val 6 (some 18) rfl rfl (by kernel_rfl) (by kernel_rfl) (by kernel_rfl) noPanic_put rfl (.bool false) (fun _ => by go_simp) hS2 ?_
      simp only [Act.put, List.setIfInBounds_toArray, List.set_cons_zero, List.set_cons_succ]
      refine wpAnyH_done (by kernel_rfl) ?_ _
      refine NoPanic.normal ?_
      go_wp2
      go_roundg (n - (j + 1))
      case measure => omega
      case rel =>
        have hbb := HB.out
        exact ⟨j + 1, x + 1, rfl, by omega, congrArg (Value.int .i64) (by unfold wrap64; omega), congrArg (Value.int .i64) (by omega), by omega, hx2, by have := HX.out; unfold Hid; omega, hW2⟩
    · have hjn : j = n := by omega
      have HXN : Hid (x = N) := by unfold Hid; rw [HX.out, HN.out, hjn]
      go_wp2
      go_ret
      exact ⟨by show Ending.returned (.int .i64 x) = _; rw [HXN.out, HN.out, Int.one_mul], hW⟩
end Go.Proofs.YthbnacikomimfaaDoor
