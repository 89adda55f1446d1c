/-
  A heap that is written, in its own memory: what writtenOf makes.
-/
import Derived.Test.YtoaancgmahdbnaaYgGoodI
import Derived.Test.YtoaancgmahdbnaaImplCopied
import Derived.Great.FillDense
import Derived.Deep.MidRow
namespace Go.Proofs.Ytoaancgmahdbnaa
open Go.RowKit Go.Shelf BL
set_option linter.unusedVariables false
attribute [local go_sem] Oper.semAt_some

theorem built_ofY {t : TypeId} {z : Array Value} {places : List (Nat × Nat)} {parts : List (Nat × Value)} {fields : Array Field} (hu : Try.prog.underlying t = some (.struct fields)) (hz : (Try.prog.info? t).bind (·.zero) = some (.agg z)) (hp : fields.toList.mapM (fun f => (Try.prog.info? f.type).map fun i => (f.offset, i.size)) = some places) :
    Try.prog.built t parts = Instr.fill (places.toArray[·]?) z parts := by
  unfold Program.built
  cases hi : Try.prog.info? t with
  | none => simp [hi] at hz
  | some it =>
    simp only [hi, Option.bind_some] at hz
    simp only [hu, hz, hp]
    rfl

theorem fill_stepY (place : Nat → Option (Nat × Nat)) (A C D : List Value) (i : Nat) (v : Value) (rest : List (Nat × Value)) (hp : place i = some (A.length, C.length)) (hv : v.cells.toList.length = C.length) :
    Instr.fill place (A ++ C ++ D).toArray ((i, v) :: rest) = Instr.fill place (A ++ v.cells.toList ++ D).toArray rest := by
  have hvs : v.cells.size = C.length := by simpa using hv
  conv => lhs; unfold Instr.fill
  simp only [hp, hvs]
  rw [if_neg (by first | (simp; done) | (simp; omega))]
  congr 1
  rw [← Array.foldl_toList, Array.toList_zipIdx]
  obtain ⟨g1, g2⟩ := Great.foldl_set A.length v.cells.toList 0 (A ++ C ++ D).toArray
  apply Array.ext_getElem?
  intro k
  rw [g2 k]
  simp only [Nat.add_zero, List.getElem?_toArray, List.size_toArray, List.append_assoc]
  by_cases h : A.length ≤ k ∧ k < A.length + v.cells.toList.length ∧ k < (A ++ (C ++ D)).length
  · rw [if_pos h, List.getElem?_append_right h.1, List.getElem?_append_left (by omega)]
  · rw [if_neg h]
    by_cases h1 : k < A.length
    · rw [List.getElem?_append_left h1, List.getElem?_append_left h1]
    · have h2 : ¬ k < A.length + C.length := fun h3 => h ⟨by omega, by omega, by simp; omega⟩
      rw [List.getElem?_append_right (by omega), List.getElem?_append_right (by omega), List.getElem?_append_right (by omega), List.getElem?_append_right (by omega), hv]


/-- A heap that is written as a row: the heap's three cells, and the marks. -/
abbrev wrL (old : Int) (v1 v2 : Value) (nm : List Bool) : List Value := .int .i64 old :: v1 :: v2 :: nm.flatMap boolL
theorem wr_places : ∃ fields : Array Field, Try.prog.underlying 76 = some (.struct fields) ∧ fields.toList.mapM (fun f => (Try.prog.info? f.type).map fun i => (f.offset, i.size)) = some [(0, 3), (3, 200)] := by
  refine ⟨_, Try.underlying76, by kernel_rfl⟩
theorem built_wr (old : Int) (v1 v2 : Value) (nm : List Bool) (h : nm.length = 200) : Try.prog.built 76 [(0, .agg #[.int .i64 old, v1, v2]), (1, .agg (mkA nm))] = some (wrL old v1 v2 nm).toArray := by
  obtain ⟨fs, h1, h2⟩ := wr_places
  have hz : (Try.prog.info? 76).bind (·.zero) = some (.agg (wrL 0 (.slice none 0 0) (.slice none 0 0) (List.replicate 200 false)).toArray) := by kernel_rfl
  rw [built_ofY h1 hz h2]
  obtain ⟨Z, hZ⟩ : ∃ Z, Z = (List.replicate 200 false).flatMap boolL := ⟨_, rfl⟩
  have hZl : Z.length = 200 := by rw [hZ, rec_len boolL 1 boolL_len, List.length_replicate]
  have hnl : (nm.flatMap boolL).length = 200 := by rw [rec_len boolL 1 boolL_len, h]
  have hw : wrL 0 (.slice none 0 0) (.slice none 0 0) (List.replicate 200 false) = ([] : List Value) ++ [Value.int .i64 0, .slice none 0 0, .slice none 0 0] ++ Z := by rw [hZ]; rfl
  rw [hw]
  show Instr.fill _ ((([] : List Value) ++ [Value.int .i64 0, .slice none 0 0, .slice none 0 0] ++ Z).toArray) _ = _
  rw [fill_stepY _ [] [Value.int .i64 0, .slice none 0 0, .slice none 0 0] Z 0 (.agg #[.int .i64 old, v1, v2]) _ rfl rfl]
  have e2 : (([] : List Value) ++ (Value.agg #[.int .i64 old, v1, v2]).cells.toList ++ Z).toArray = ([Value.int .i64 old, v1, v2] ++ Z ++ ([] : List Value)).toArray := by simp [Value.cells]
  rw [e2, fill_stepY _ [Value.int .i64 old, v1, v2] Z [] 1 (.agg (mkA nm)) _ (by rw [hZl]; rfl) (by rw [hZl]; exact hnl)]
  simp [Instr.fill, Value.cells, wrL, mkA]
theorem run_bwr {o : Oper} {a : Act} {w : World} (x y : Operand) (ho : o.op = .build 76 #[(0, x), (1, y)]) (old : Int) (v1 v2 : Value) (nm : List Bool) (h : nm.length = 200) (hx : a.eval x = .agg #[.int .i64 old, v1, v2]) (hy : a.eval y = .agg (mkA nm)) :
    (execOp a.eval o).run Try.prog w = .ok (.value (.agg (wrL old v1 v2 nm).toArray)) w := by
  have e : (Array.map (fun (i, x) => (i, a.eval x)) #[(0, x), (1, y)]).toList = [(0, a.eval x), (1, a.eval y)] := by simp
  have h := run_build w 76 (Array.map (fun (i, x) => (i, a.eval x)) #[(0, x), (1, y)]) (wrL old v1 v2 nm).toArray (by rw [e, hx, hy]; exact built_wr old v1 v2 nm h)
  unfold execOp
  simp only [ho, Sem.run_bind, h, Result.andThen_ok]
  rfl
theorem run_boxR {o : Oper} {a : Act} {w : World} (T : TypeId) (x : Operand) (ho : o.op = .box T x) (cs : Array Value) (hx : a.eval x = .agg cs) :
    (execOp a.eval o).run Try.prog w = .ok (.value (.pointer (some ⟨w.heap.size, 0, none⟩))) (w.alloc (.cells cs T)) := by
  unfold execOp
  simp only [ho, hx]
  go_simp
/-- Its memory: the row, and the rows of its own behind it. -/
def WrAt (W : World) (B hb : Nat) (v1 v2 : Value) (h : Hp) (nm : List Bool) : Prop :=
  RowAt W hb 76 (wrL h.old v1 v2 nm).toArray ∧ OwnR W B v1 59 cellL 4 h.cells ∧ OwnR W B v2 3 intL 1 h.roots ∧ B ≤ hb

set_option maxRecDepth 100000 in
set_option maxHeartbeats 4000000 in
theorem writtenOf_any (m : Yg) (b c d : Nat) (w : World) (hs : YgSmall m 1048576) (hM : YgAt w b c d m) :
    Calls Try.prog 55 #[.agg (ygC b c d m)] w fun e w' => ((ygOk m = false ∧ e = .returned (.tuple #[.pointer none, .bool false])) ∨ (ygOk m = true ∧ ∃ hb v1 v2, e = .returned (.tuple #[.pointer (some ⟨hb, 0, none⟩), .bool true]) ∧ WrAt w' w.heap.size hb v1 v2 m.h (nmk m.noted))) ∧ Below w.heap.size w w' := by
  obtain ⟨lb, lc, ld⟩ := hM.lt
  have hzh := zero_hp.1
  have hR := RowAt.new w 30 (ygC b c d m)
  have hB0 : Below w.heap.size w (w.alloc (.cells (ygC b c d m) 30)) := (Below.refl _ _).alloc (Nat.le_refl _) _
  -- what every later world knows
  have HF : Hid (∀ w', Below (w.heap.size + 1) (w.alloc (.cells (ygC b c d m) 30)) w' → (((w'.cell? ⟨w.heap.size, 0, none⟩ = some (.int .i64 m.h.old) ∧ w'.cell? ⟨w.heap.size, 1, none⟩ = some (slR b m.h.cells)) ∧ w'.cell? ⟨w.heap.size, 2, none⟩ = some (slR c m.h.roots) ∧ w'.cell? ⟨w.heap.size, 3, none⟩ = some (slR d m.noted)) ∧ Below w.heap.size w w' ∧ w.heap.size + 1 ≤ w'.heap.size) ∧ YgAt w' b c d m) := by
    intro w' h
    have hr := RowAt.below hR h (by omega)
    have hT := hB0.trans (h.mono (by omega))
    refine ⟨⟨⟨⟨?_, ?_⟩, ?_, ?_⟩, hT, by have := h.size; simpa using this⟩, hM.below hT lb lc ld⟩ <;> (rw [cell_of_row w' _ _ _ _ _ hr]; rfl)
  have HG := hideT' (implGoodYoung_any m _ _ _ _ hs hs.2 (hM.below hB0 lb lc ld).rd (fun o n c e => by cases e; exact Nat.le_refl _))
  have HSM := hideT' hs
  clear hM hR hB0 hs lb lc ld
  go_enter Try.func55, Try.ntmps55
  go_wp2_with fail
  refine HG.out.mono ?_
  rintro e w1 ⟨rfl, hB1⟩
  have hB1' : Below (w.heap.size + 1) (w.alloc (.cells (ygC b c d m) 30)) w1 := hB1.mono (by simp)
  obtain ⟨⟨⟨⟨f0, f1⟩, f2, f3⟩, hT1, hs1⟩, hM1⟩ := HF.out w1 hB1'
  obtain ⟨q, hq⟩ : ∃ q, q = ygOk m := ⟨_, rfl⟩
  rw [← hq]
  have HQ := hideT' hq
  clear hq hB1
  cases q with
  | false =>
    have HT := hideT' hT1
    clear hT1 hM1 hB1'
    go_wp2
    go_ret2
    exact ⟨.inl ⟨HQ.out.symm, by rfl⟩, HT.out⟩
  | true =>
  have hsnd : sndOk m.h = true := by
    have := HQ.out.symm
    unfold ygOk at this
    rw [Bool.and_eq_true] at this
    exact this.1
  have hris : rise m.h.old 0 m.noted = true := by
    have := HQ.out.symm
    unfold ygOk at this
    rw [Bool.and_eq_true, Bool.and_eq_true] at this
    exact this.2.1
  obtain ⟨hl1, hl2, hold, _, _⟩ := sndOk_all hsnd
  have hmem : ∀ n ∈ m.noted, 0 ≤ n ∧ n < 200 := fun n hn => ⟨(rise_mem m.noted 0 hris n hn).1, by have := (rise_mem m.noted 0 hris n hn).2; omega⟩
  have HB1 := hideT' hB1'
  have HMEM := hideT' hmem
  have HL := hideT' (And.intro hl1 hl2)
  clear hsnd hris hmem hold hT1 hM1 hB1'
  go_wp2_with fail
  refine (withoutNotes_any m.h.old (some ⟨b, 0, none⟩) m.h.cells.length m.h.cells.length (some ⟨c, 0, none⟩) m.h.roots.length m.h.roots.length (some ⟨d, 0, none⟩) m.noted.length m.noted.length w1).mono ?_
  rintro e w2 ⟨rfl, hB2⟩
  obtain ⟨w3, hw3⟩ : ∃ w3, w3 = w2.alloc (.cells #[.int .i64 m.h.old, slR b m.h.cells, slR c m.h.roots] 48) := ⟨_, rfl⟩
  have hs2 := hB2.size
  have hB3 : Below w1.heap.size w1 w3 := by rw [hw3]; exact hB2.alloc hs2 _
  have hs3 : w3.heap.size = w2.heap.size + 1 := by rw [hw3]; simp
  have hX3 : RowAt w3 w2.heap.size 48 #[.int .i64 m.h.old, slR b m.h.cells, slR c m.h.roots] := by rw [hw3]; exact RowAt.new _ _ _
  have hB3' := HB1.out.trans (hB3.mono hs1)
  obtain ⟨⟨⟨⟨g0, g1⟩, g2, g3⟩, hT3, _⟩, hM3⟩ := HF.out w3 hB3'
  have HX3 := hideT' (And.intro hX3 (And.intro hM3 hB3'))
  have HG3 := hideT' g3
  have HW3 := hideT' hw3
  clear f0 f1 f2 f3 hB2 hw3 hB3 hX3 hB3' g0 g1 g2 g3 hT3 hM3
  go_wp2_with fail
  first | rw [← HW3.out] | skip
  have hS : World.cell? w3.drew ⟨w.heap.size, 3, none⟩ = some (slR d m.noted) := HG3.out
  refine held_begin (fun w' => World.cell? w' ⟨w.heap.size, 3, none⟩ = some (slR d m.noted)) (by kernel_rfl) ?_
  refine held_val 1 (some 11) rfl rfl (by kernel_rfl) (by kernel_rfl) (by kernel_rfl) noPanic_put rfl (.pointer (some ⟨w.heap.size, 3, none⟩)) (fun _ => by go_simp) hS ?_
  simp only [Act.put, List.setIfInBounds_toArray, List.set_cons_zero, List.set_cons_succ]
  refine held_valS 2 (some 12) rfl rfl (by kernel_rfl) (by kernel_rfl) (by kernel_rfl) noPanic_put rfl (slR d m.noted) (fun w' h => run_cell1 (.tmp 11) 23 rfl ⟨w.heap.size, 3, none⟩ rfl _ Try.underlying23 rfl h) hS ?_
  simp only [Act.put, List.setIfInBounds_toArray, List.set_cons_zero, List.set_cons_succ]
  have hR3 : RowAt w3.drew w2.heap.size 48 #[.int .i64 m.h.old, slR b m.h.cells, slR c m.h.roots] := HX3.out.1
  have hMd : YgAt w3.drew b c d m := HX3.out.2.1
  refine held_call 0 (some 10) (by kernel_rfl) rfl rfl rfl 70 #[.pointer (some ⟨w2.heap.size, 0, none⟩)] (by go_simp) _ (copied_any m.h w2.heap.size _ _ w3.drew (by rw [cell_of_row _ _ _ _ _ _ hR3]; rfl) (by rw [cell_of_row _ _ _ _ _ _ hR3]; rfl) (by rw [cell_of_row _ _ _ _ _ _ hR3]; rfl) hMd.1.rd HL.out.1 HL.out.2) ?_
  rintro e w4 ⟨⟨v1, v2, rfl, hO1, hO2⟩, hB4⟩
  have hB4' : Below w3.heap.size w3 w4 := ⟨hB4.os, hB4.tape, hB4.output, hB4.size, hB4.block⟩
  have hsz3 := (HF.out w3 HX3.out.2.2).1.2.2
  have hBB4 := HX3.out.2.2.trans (hB4'.mono hsz3)
  obtain ⟨⟨⟨_, _, g3⟩, hT4, hsz4⟩, hM4⟩ := HF.out w4 hBB4
  refine ⟨_, rfl, g3, ?_⟩
  simp only [Act.put, List.setIfInBounds_toArray, List.set_cons_zero, List.set_cons_succ]
  refine held_call 3 (some 13) (by kernel_rfl) rfl rfl rfl 52 #[slR d m.noted] (by go_simp) _ (marksOf_any m.noted _ w4 hM4.rd.2 HSM.out.2 HMEM.out) ?_
  rintro e w5 ⟨rfl, hB5⟩
  have hBB5 := hBB4.trans (hB5.mono hsz4)
  obtain ⟨⟨⟨_, _, g3'⟩, hT5, hsz5⟩, hM5⟩ := HF.out w5 hBB5
  have hO1' := OwnR.below (l := m.h.cells) hO1 hB5 (Nat.le_refl _)
  have hO2' := OwnR.below (l := m.h.roots) hO2 hB5 (Nat.le_refl _)
  refine ⟨_, rfl, g3', ?_⟩
  simp only [Act.put, List.setIfInBounds_toArray, List.set_cons_zero, List.set_cons_succ]
  refine held_val 4 (some 14) rfl rfl (by kernel_rfl) (by kernel_rfl) (by kernel_rfl) noPanic_put rfl (.agg (wrL m.h.old v1 v2 (nmk m.noted)).toArray) (fun w' => run_bwr (.tmp 10) (.tmp 13) rfl m.h.old v1 v2 (nmk m.noted) (nmk_len _) rfl rfl) g3' ?_
  simp only [Act.put, List.setIfInBounds_toArray, List.set_cons_zero, List.set_cons_succ]
  have hBB6 := hBB5.alloc hsz5 (.cells (wrL m.h.old v1 v2 (nmk m.noted)).toArray 76)
  obtain ⟨⟨⟨_, _, g6⟩, hT6, hsz6⟩, hM6⟩ := HF.out _ hBB6
  refine held_ready 5 (some 15) (by kernel_rfl) rfl rfl rfl (.pointer (some ⟨w5.heap.size, 0, none⟩)) (w5.alloc (.cells (wrL m.h.old v1 v2 (nmk m.noted)).toArray 76)) (run_boxR 76 (.tmp 14) rfl _ rfl) g6 ?_
  simp only [Act.put, List.setIfInBounds_toArray, List.set_cons_zero, List.set_cons_succ]
  refine held_val 6 (some 2) rfl rfl (by kernel_rfl) (by kernel_rfl) (by kernel_rfl) noPanic_put rfl (.pointer (some ⟨w5.heap.size, 0, none⟩)) (fun _ => by go_simp) g6 ?_
  simp only [Act.put, List.setIfInBounds_toArray, List.set_cons_zero, List.set_cons_succ]
  refine held_val 7 (some 3) rfl rfl (by kernel_rfl) (by kernel_rfl) (by kernel_rfl) noPanic_put rfl (.bool true) (fun _ => by go_simp) g6 ?_
  simp only [Act.put, List.setIfInBounds_toArray, List.set_cons_zero, List.set_cons_succ]
  refine wpAnyH_done (by kernel_rfl) ?_ _
  refine NoPanic.normal ?_
  have hs4 := hB4'.size
  have hs5 := hB5.size
  have hsw : w.heap.size ≤ w3.drew.heap.size := by show w.heap.size ≤ w3.heap.size; omega
  have HO := hideT' (And.intro (own_baseX (hO1'.alloc (.cells (wrL m.h.old v1 v2 (nmk m.noted)).toArray 76)) hsw) (own_baseX (hO2'.alloc (.cells (wrL m.h.old v1 v2 (nmk m.noted)).toArray 76)) hsw))
  have HT6 := hideT' hT6
  have hwb : w.heap.size ≤ w5.heap.size := by omega
  clear hO1 hO2 hO1' hO2' hT4 hT5 hT6 hM4 hM5 hM6 hBB4 hBB5 hBB6 hS hR3 hMd g3 g3' g6 hB4 hB4' hB5 HX3
  go_wp2
  go_ret2
  exact ⟨.inr ⟨HQ.out.symm, w5.heap.size, v1, v2, by rfl, RowAt.new _ _ _, HO.out.1, HO.out.2, hwb⟩, HT6.out⟩
end Go.Proofs.Ytoaancgmahdbnaa
