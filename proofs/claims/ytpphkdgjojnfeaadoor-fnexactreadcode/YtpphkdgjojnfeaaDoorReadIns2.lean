/-
  What impl.readInstr answers: an instruction out of its line.
-/
import Derived.Test.YtpphkdgjojnfeaaDoorReadIns
namespace Go.Proofs.YtpphkdgjojnfeaaDoor
open Go.RowKit
set_option linter.unusedVariables false

/-- What is read of a line: of an instruction's line that instruction, and true. -/
def RIns (t : ByteArray) (e : Ending) : Prop := ∃ (x : Ins) (q : Bool), e = .returned (.tuple #[.agg (instrL x).toArray, .bool q]) ∧ x.2.2.size ≤ t.size ∧ ∀ y, insOk y = true → t.data.toList = insLine y → q = true ∧ x = y

theorem ins3_all (a b : Int) (c : ByteArray) : (#[Value.int .i64 a, .int .i64 b, .string c].all (·.oneCell')) = true := by
  rw [Array.all_eq_true_iff_forall_mem]
  intro u hu
  exact instrL_one (a, b, c) u (by simpa [instrL] using hu)
theorem size1X : (Tryd.prog.info? 3).map (·.size) = some 1 := by kernel_rfl

set_option maxHeartbeats 4000000 in
set_option maxRecDepth 100000 in
theorem readInstr_any (t : ByteArray) (w : World) (hs : t.size ≤ 1048576) (hE : EV w) :
    Calls Tryd.prog 25 #[.string t] w fun e w' => RIns t e ∧ Below w.heap.size w w' := by
  have hz := zero_instr.1
  have hB0 : Below w.heap.size w (w.alloc (.cells #[.int .i64 0, .int .i64 0, .string ⟨#[]⟩] 37)) := (Below.refl _ _).alloc (Nat.le_refl _) _
  have HR0 := hideT' (RowAt.new w 37 #[.int .i64 0, .int .i64 0, .string ⟨#[]⟩])
  have HE := hideT' hE
  have HC1 := hideT' (cutLib_any 32 t (w.alloc (.cells #[.int .i64 0, .int .i64 0, .string ⟨#[]⟩] 37)) (by unfold maxLen; omega))
  have hb0 : Tryd.prog.built 37 [] = some #[.int .i64 0, .int .i64 0, .string ⟨#[]⟩] := by kernel_rfl
  clear hE
  go_enter Tryd.func25, Tryd.ntmps25
  go_wp2_with fail
  refine HC1.out.mono ?_
  rintro e w1 ⟨a, y, rfl, ha, hy, hB1⟩
  have hs1 := hB1.size
  simp only [World.size_alloc] at hs1
  have hW1 := hB0.trans (hB1.mono (by simp))
  have HR1 := hideT' (RowAt.below HR0.out hB1 (by simp))
  have hz32 := cutB_size 32 t.data.toList
  have htl : t.data.toList.length = t.size := by simp
  have has : a.size ≤ t.size := by
    rw [← ha, htl] at hz32
    have h1 : a.data.toList.length = a.size := by simp
    omega
  have hys : y.size ≤ t.size := by
    rw [← hy, htl] at hz32
    have h1 : y.data.toList.length = y.size := by simp
    omega
  obtain ⟨q1, hq1⟩ : ∃ q, q = (cutB 32 t.data.toList).2.2 := ⟨_, rfl⟩
  rw [← hq1]
  have HQ1 := hideT' hq1
  have HAA := hideT' ha
  have HY := hideT' hy
  have HC2 := hideT' (cutLib_any 32 y w1 (by unfold maxLen; omega))
  clear hq1 ha hy hz32 htl hB1 HR0
  go_wp2_with fail
  refine HC2.out.mono ?_
  rintro e w2 ⟨b, c, rfl, hb, hc, hB2⟩
  have hs2 := hB2.size
  have hW2 := hW1.trans (hB2.mono hW1.size)
  have HR2 := hideT' (RowAt.below HR1.out hB2 (by omega))
  have hz32 := cutB_size 32 y.data.toList
  have hyl : y.data.toList.length = y.size := by simp
  have hbs : b.size ≤ t.size := by
    rw [← hb, hyl] at hz32
    have h1 : b.data.toList.length = b.size := by simp
    omega
  have hcs : c.size ≤ t.size := by
    rw [← hc, hyl] at hz32
    have h1 : c.data.toList.length = c.size := by simp
    omega
  obtain ⟨q2, hq2⟩ : ∃ q, q = (cutB 32 y.data.toList).2.2 := ⟨_, rfl⟩
  rw [← hq2]
  have HQ2 := hideT' hq2
  have HBB := hideT' hb
  have HCC := hideT' hc
  -- what an instruction's line says
  have HL : Hid (∀ x, insOk x = true → t.data.toList = insLine x → q1 = true ∧ q2 = true ∧ a.data.toList = Lib.itoa x.1 ∧ b.data.toList = Lib.itoa x.2.1 ∧ c = x.2.2) := fun x hx hl => by
    have h1 := cut_first hx
    rw [← hl] at h1
    have e1 := HQ1.out
    rw [h1] at e1
    have e2 := HY.out
    rw [h1] at e2
    have e3 := HAA.out
    rw [h1] at e3
    simp only at e1 e2 e3
    have h2 := cut_second hx
    rw [← e2] at h2
    have e4 := HQ2.out
    rw [h2] at e4
    have e5 := HBB.out
    rw [h2] at e5
    have e6 := HCC.out
    rw [h2] at e6
    simp only at e4 e5 e6
    exact ⟨e1, e4, e3, e5, ByteArray.ext (Array.ext' e6)⟩
  clear hq2 hb hc hz32 hyl hB2 HR1
  by_cases hqq : q1 = true ∧ q2 = true
  · obtain ⟨rfl, rfl⟩ := hqq
    have HC3 := hideT' (clone_any c w2 (by omega))
    go_wp2_with fail
    refine HC3.out.mono ?_
    rintro e w3 ⟨rfl, hB3⟩
    have hs3 := hB3.size
    have hW3 := hW2.trans (hB3.mono hW2.size)
    have HR3 := hideT' (RowAt.below HR2.out hB3 (by omega))
    have hbc : Tryd.prog.built 37 [(2, .string c)] = some #[.int .i64 0, .int .i64 0, .string c] := rfl
    have hW3n := hW3.alloc hW3.size (.cells #[.int .i64 0, .int .i64 0, .string c] 37)
    have HN3 := hideT' (RowAt.new w3 37 #[.int .i64 0, .int .i64 0, .string c])
    have HC4 := hideT' (atoiX_any a (w3.alloc (.cells #[.int .i64 0, .int .i64 0, .string c] 37)) (by omega) (HE.out.below hW3n))
    clear hB3 HR2
    go_wp2_with fail
    refine HC4.out.mono ?_
    rintro e w4 ⟨⟨va, E1, p1, rfl, hp1⟩, hB4⟩
    have hs4 := hB4.size
    simp only [World.size_alloc] at hs4
    have hW4 := hW3n.trans (hB4.mono (by simp; omega))
    have hr4 := RowAt.below (RowAt.old HR3.out (.cells #[.int .i64 0, .int .i64 0, .string c] 37)) hB4 (by simp; omega)
    have hn4 := RowAt.below HN3.out hB4 (by simp)
    have HR4 := hideT' hr4
    have HN4 := hideT' hn4
    have HP1 := hideT' hp1
    clear hB4 hr4 hn4 hp1 HR3 HN3
    go_wp2_with (first | (refine store_rc rfl 3 _ _ rfl rfl w3.heap.size 0 (.int .i64 va) rfl rfl size1X rfl HN4.out (by simp) ?_; intro w5 hn5 hg5 hs5))
    have hW5 := hW4.grown hg5 (by omega) (fun k hk => by injection hk with hk; omega)
    have HR5 := hideT' (RowAt.grown HR4.out hg5 (by intro e; injection e with e; omega))
    have HN5 := hideT' hn5
    have HC5 := hideT' (atoiX_any b w5 (by omega) (HE.out.below hW5))
    clear hn5 hg5 HR4 HN4
    refine HC5.out.mono ?_
    rintro e w6 ⟨⟨vb, E2, p2, rfl, hp2⟩, hB6⟩
    have hs6 := hB6.size
    have hW6 := hW5.trans (hB6.mono hW5.size)
    have HR6 := hideT' (RowAt.below HR5.out hB6 (by omega))
    have HN6 := hideT' (RowAt.below HN5.out hB6 (by omega))
    have HP2 := hideT' hp2
    clear hB6 hp2 HR5 HN5
    have HX : Hid (∀ x, insOk x = true → t.data.toList = insLine x → (p1 && p2) = true ∧ ((va, vb, c) : Ins) = x) := fun x hx hl => by
      obtain ⟨_, _, e3, e4, e5⟩ := HL.out x hx hl
      obtain ⟨g1, g2, g3, g4, _, _⟩ := insOk_parts hx
      have f1 := atoi_itoa (n := x.1) (by omega) (by omega)
      have f2 := atoi_itoa g3 g4
      rw [← e3] at f1
      rw [← e4] at f2
      rcases HP1.out with ⟨rfl, _, h1⟩ | ⟨_, _, h1⟩
      · rcases HP2.out with ⟨rfl, _, h2⟩ | ⟨_, _, h2⟩
        · rw [f1] at h1
          rw [f2] at h2
          injection h1 with h1
          injection h2 with h2
          exact ⟨rfl, Prod.ext h1.symm (Prod.ext h2.symm e5)⟩
        · exact absurd f2 (h2 _)
      · exact absurd f1 (h1 _)
    go_wp2_with (first | (refine store_rc rfl 3 _ _ rfl rfl w3.heap.size 1 (.int .i64 vb) rfl rfl size1X rfl HN6.out (by simp) ?_; intro w7 hn7 hg7 hs7))
    have hW7 := hW6.grown hg7 (by omega) (fun k hk => by injection hk with hk; omega)
    have hr7 : RowAt w7 w.heap.size 37 #[.int .i64 0, .int .i64 0, .string ⟨#[]⟩] := RowAt.grown HR6.out hg7 (by intro e; injection e with e; omega)
    have hn7' : RowAt w7 w3.heap.size 37 #[.int .i64 va, .int .i64 vb, .string c] := hn7
    have hS : RowAt w7.drew w3.heap.size 37 #[.int .i64 va, .int .i64 vb, .string c] := hn7'
    have hsz3 : (Tryd.prog.info? 37).map (·.size) = some 3 := zero_instr.2
    clear hn7 hg7
    have hq1 := HP1.out
    have hq2 := HP2.out
    rcases hq1 with ⟨rfl, rfl, _⟩ | ⟨rfl, ⟨tp1, pp1, rfl⟩, _⟩
    · rcases hq2 with ⟨rfl, rfl, _⟩ | ⟨rfl, ⟨tp2, pp2, rfl⟩, _⟩
      · skip
        refine held_begin (fun w' => RowAt w' w3.heap.size 37 #[.int .i64 va, .int .i64 vb, .string c]) (by kernel_rfl) ?_
        refine held_valS 0 (some 46) rfl rfl (by kernel_rfl) (by kernel_rfl) (by kernel_rfl) noPanic_put rfl (.agg #[.int .i64 va, .int .i64 vb, .string c]) (fun w' hw' => run_row3 rfl rfl hw' Tryd.underlying37 hsz3) hS ?_
        simp only [Act.put, List.setIfInBounds_toArray, List.set_cons_zero, List.set_cons_succ]
        refine held_val 1 (some 47) rfl rfl (by kernel_rfl) (by kernel_rfl) (by kernel_rfl) noPanic_put rfl (.nilIface) (fun _ => rfl) hS ?_
        simp only [Act.put, List.setIfInBounds_toArray, List.set_cons_zero, List.set_cons_succ]
        refine held_val 2 (some 48) rfl rfl (by kernel_rfl) (by kernel_rfl) (by kernel_rfl) noPanic_put rfl (.bool true) (fun _ => by go_simp) hS ?_
        simp only [Act.put, List.setIfInBounds_toArray, List.set_cons_zero, List.set_cons_succ]
        refine held_val 3 (some 49) rfl rfl (by kernel_rfl) (by kernel_rfl) (by kernel_rfl) noPanic_put rfl (.bool true) (fun _ => rfl) hS ?_
        simp only [Act.put, List.setIfInBounds_toArray, List.set_cons_zero, List.set_cons_succ]
        refine held_val 4 (some 50) rfl rfl (by kernel_rfl) (by kernel_rfl) (by kernel_rfl) noPanic_put rfl (.nilIface) (fun _ => rfl) hS ?_
        simp only [Act.put, List.setIfInBounds_toArray, List.set_cons_zero, List.set_cons_succ]
        refine held_val 5 (some 51) rfl rfl (by kernel_rfl) (by kernel_rfl) (by kernel_rfl) noPanic_put rfl (.bool true) (fun _ => by go_simp) hS ?_
        simp only [Act.put, List.setIfInBounds_toArray, List.set_cons_zero, List.set_cons_succ]
        refine held_val 6 (some 52) rfl rfl (by kernel_rfl) (by kernel_rfl) (by kernel_rfl) noPanic_put rfl (.bool true) (fun _ => rfl) hS ?_
        simp only [Act.put, List.setIfInBounds_toArray, List.set_cons_zero, List.set_cons_succ]
        refine held_store_row 7 (by kernel_rfl) rfl rfl 37 _ _ rfl rfl w.heap.size #[.int .i64 va, .int .i64 vb, .string c] _ rfl rfl (show RowAt w7.drew _ _ _ from hr7) hsz3 rfl (ins3_all va vb c) ?_
        intro w8 hr8 hg8 hs8
        have hg8' : w7.grownBy w8 (some w.heap.size) := ⟨hg8.os, hg8.tape, hg8.output, hg8.size, hg8.block⟩
        refine ⟨RowAt.grown hS hg8 (by intro e; injection e with e; omega), ?_⟩
        refine held_assign 8 (some 3) (by kernel_rfl) rfl rfl _ rfl rfl (.bool true) rfl (RowAt.grown hS hg8 (by intro e; injection e with e; omega)) ?_
        simp only [Act.put, List.setIfInBounds_toArray, List.set_cons_zero, List.set_cons_succ]
        refine wpAnyH_done (by kernel_rfl) ?_ _
        refine NoPanic.normal ?_
        go_wp2
        have hW8 := hW7.grown hg8' (by have := hs7; omega) (fun k hk => by injection hk with hk; omega)
        refine bodyPost_ret (resX_row_tmp Tryd.results25 _ _ w.heap.size #[.int .i64 va, .int .i64 vb, .string c] (.bool true) _ rfl rfl hr8 Tryd.underlying37 hsz3) rfl ⟨⟨(va, vb, c), true, rfl, hcs, HX.out⟩, hW8⟩
      · skip
        refine held_begin (fun w' => RowAt w' w3.heap.size 37 #[.int .i64 va, .int .i64 vb, .string c]) (by kernel_rfl) ?_
        refine held_valS 0 (some 46) rfl rfl (by kernel_rfl) (by kernel_rfl) (by kernel_rfl) noPanic_put rfl (.agg #[.int .i64 va, .int .i64 vb, .string c]) (fun w' hw' => run_row3 rfl rfl hw' Tryd.underlying37 hsz3) hS ?_
        simp only [Act.put, List.setIfInBounds_toArray, List.set_cons_zero, List.set_cons_succ]
        refine held_val 1 (some 47) rfl rfl (by kernel_rfl) (by kernel_rfl) (by kernel_rfl) noPanic_put rfl (.nilIface) (fun _ => rfl) hS ?_
        simp only [Act.put, List.setIfInBounds_toArray, List.set_cons_zero, List.set_cons_succ]
        refine held_val 2 (some 48) rfl rfl (by kernel_rfl) (by kernel_rfl) (by kernel_rfl) noPanic_put rfl (.bool true) (fun _ => by go_simp) hS ?_
        simp only [Act.put, List.setIfInBounds_toArray, List.set_cons_zero, List.set_cons_succ]
        refine held_val 3 (some 49) rfl rfl (by kernel_rfl) (by kernel_rfl) (by kernel_rfl) noPanic_put rfl (.bool true) (fun _ => rfl) hS ?_
        simp only [Act.put, List.setIfInBounds_toArray, List.set_cons_zero, List.set_cons_succ]
        refine held_val 4 (some 50) rfl rfl (by kernel_rfl) (by kernel_rfl) (by kernel_rfl) noPanic_put rfl (.iface tp2 pp2) (fun _ => rfl) hS ?_
        simp only [Act.put, List.setIfInBounds_toArray, List.set_cons_zero, List.set_cons_succ]
        refine held_val 5 (some 51) rfl rfl (by kernel_rfl) (by kernel_rfl) (by kernel_rfl) noPanic_put rfl (.bool false) (fun _ => by go_simp) hS ?_
        simp only [Act.put, List.setIfInBounds_toArray, List.set_cons_zero, List.set_cons_succ]
        refine held_val 6 (some 52) rfl rfl (by kernel_rfl) (by kernel_rfl) (by kernel_rfl) noPanic_put rfl (.bool false) (fun _ => rfl) hS ?_
        simp only [Act.put, List.setIfInBounds_toArray, List.set_cons_zero, List.set_cons_succ]
        refine held_store_row 7 (by kernel_rfl) rfl rfl 37 _ _ rfl rfl w.heap.size #[.int .i64 va, .int .i64 vb, .string c] _ rfl rfl (show RowAt w7.drew _ _ _ from hr7) hsz3 rfl (ins3_all va vb c) ?_
        intro w8 hr8 hg8 hs8
        have hg8' : w7.grownBy w8 (some w.heap.size) := ⟨hg8.os, hg8.tape, hg8.output, hg8.size, hg8.block⟩
        refine ⟨RowAt.grown hS hg8 (by intro e; injection e with e; omega), ?_⟩
        refine held_assign 8 (some 3) (by kernel_rfl) rfl rfl _ rfl rfl (.bool false) rfl (RowAt.grown hS hg8 (by intro e; injection e with e; omega)) ?_
        simp only [Act.put, List.setIfInBounds_toArray, List.set_cons_zero, List.set_cons_succ]
        refine wpAnyH_done (by kernel_rfl) ?_ _
        refine NoPanic.normal ?_
        go_wp2
        have hW8 := hW7.grown hg8' (by have := hs7; omega) (fun k hk => by injection hk with hk; omega)
        refine bodyPost_ret (resX_row_tmp Tryd.results25 _ _ w.heap.size #[.int .i64 va, .int .i64 vb, .string c] (.bool false) _ rfl rfl hr8 Tryd.underlying37 hsz3) rfl ⟨⟨(va, vb, c), false, rfl, hcs, HX.out⟩, hW8⟩
    · skip
      refine held_begin (fun w' => RowAt w' w3.heap.size 37 #[.int .i64 va, .int .i64 vb, .string c]) (by kernel_rfl) ?_
      refine held_valS 0 (some 46) rfl rfl (by kernel_rfl) (by kernel_rfl) (by kernel_rfl) noPanic_put rfl (.agg #[.int .i64 va, .int .i64 vb, .string c]) (fun w' hw' => run_row3 rfl rfl hw' Tryd.underlying37 hsz3) hS ?_
      simp only [Act.put, List.setIfInBounds_toArray, List.set_cons_zero, List.set_cons_succ]
      refine held_val 1 (some 47) rfl rfl (by kernel_rfl) (by kernel_rfl) (by kernel_rfl) noPanic_put rfl (.iface tp1 pp1) (fun _ => rfl) hS ?_
      simp only [Act.put, List.setIfInBounds_toArray, List.set_cons_zero, List.set_cons_succ]
      refine held_val 2 (some 48) rfl rfl (by kernel_rfl) (by kernel_rfl) (by kernel_rfl) noPanic_put rfl (.bool false) (fun _ => by go_simp) hS ?_
      simp only [Act.put, List.setIfInBounds_toArray, List.set_cons_zero, List.set_cons_succ]
      refine held_val 3 (some 49) rfl rfl (by kernel_rfl) (by kernel_rfl) (by kernel_rfl) noPanic_put rfl (.bool false) (fun _ => rfl) hS ?_
      simp only [Act.put, List.setIfInBounds_toArray, List.set_cons_zero, List.set_cons_succ]
      refine held_skip 4 (some 50) rfl rfl (by kernel_rfl) (by kernel_rfl) (by kernel_rfl) noPanic_put rfl hS ?_
      simp only [Act.put, List.setIfInBounds_toArray, List.set_cons_zero, List.set_cons_succ]
      refine held_skip 5 (some 51) rfl rfl (by kernel_rfl) (by kernel_rfl) (by kernel_rfl) noPanic_put rfl hS ?_
      simp only [Act.put, List.setIfInBounds_toArray, List.set_cons_zero, List.set_cons_succ]
      refine held_val 6 (some 52) rfl rfl (by kernel_rfl) (by kernel_rfl) (by kernel_rfl) noPanic_put rfl (.bool false) (fun _ => rfl) hS ?_
      simp only [Act.put, List.setIfInBounds_toArray, List.set_cons_zero, List.set_cons_succ]
      refine held_store_row 7 (by kernel_rfl) rfl rfl 37 _ _ rfl rfl w.heap.size #[.int .i64 va, .int .i64 vb, .string c] _ rfl rfl (show RowAt w7.drew _ _ _ from hr7) hsz3 rfl (ins3_all va vb c) ?_
      intro w8 hr8 hg8 hs8
      have hg8' : w7.grownBy w8 (some w.heap.size) := ⟨hg8.os, hg8.tape, hg8.output, hg8.size, hg8.block⟩
      refine ⟨RowAt.grown hS hg8 (by intro e; injection e with e; omega), ?_⟩
      refine held_assign 8 (some 3) (by kernel_rfl) rfl rfl _ rfl rfl (.bool false) rfl (RowAt.grown hS hg8 (by intro e; injection e with e; omega)) ?_
      simp only [Act.put, List.setIfInBounds_toArray, List.set_cons_zero, List.set_cons_succ]
      refine wpAnyH_done (by kernel_rfl) ?_ _
      refine NoPanic.normal ?_
      go_wp2
      have hW8 := hW7.grown hg8' (by have := hs7; omega) (fun k hk => by injection hk with hk; omega)
      refine bodyPost_ret (resX_row_tmp Tryd.results25 _ _ w.heap.size #[.int .i64 va, .int .i64 vb, .string c] (.bool false) _ rfl rfl hr8 Tryd.underlying37 hsz3) rfl ⟨⟨(va, vb, c), false, rfl, hcs, HX.out⟩, hW8⟩
  · have HNO : Hid (∀ x, insOk x = true → t.data.toList = insLine x → false = true ∧ ((0, 0, ⟨#[]⟩) : Ins) = x) := fun x hx hl => by
      obtain ⟨e1, e2, _⟩ := HL.out x hx hl
      exact absurd ⟨e1, e2⟩ hqq
    have hsz3 : (Tryd.prog.info? 37).map (·.size) = some 3 := zero_instr.2
    have HQQ := hideT' hqq
    clear hqq
    cases q1 with
    | false =>
      go_wp2_with (first | (refine store_3 rfl 37 _ _ rfl rfl hsz3 w.heap.size #[.int .i64 0, .int .i64 0, .string ⟨#[]⟩] rfl (ins3_all 0 0 ⟨#[]⟩) rfl rfl _ rfl HR2.out ?_; intro w3 hr3 hg3 hs3))
      refine bodyPost_ret (resX_row_tmp Tryd.results25 _ _ w.heap.size #[.int .i64 0, .int .i64 0, .string ⟨#[]⟩] (.bool false) _ rfl rfl hr3 Tryd.underlying37 hsz3) rfl ⟨⟨(0, 0, ⟨#[]⟩), false, rfl, Nat.zero_le _, HNO.out⟩, hW2.grown hg3 (by omega) (fun k hk => by injection hk with hk; omega)⟩
    | true =>
      have hq2 : q2 = false := by
        cases q2 with
        | false => rfl
        | true => exact absurd ⟨rfl, rfl⟩ HQQ.out
      subst hq2
      go_wp2_with (first | (refine store_3 rfl 37 _ _ rfl rfl hsz3 w.heap.size #[.int .i64 0, .int .i64 0, .string ⟨#[]⟩] rfl (ins3_all 0 0 ⟨#[]⟩) rfl rfl _ rfl HR2.out ?_; intro w3 hr3 hg3 hs3))
      refine bodyPost_ret (resX_row_tmp Tryd.results25 _ _ w.heap.size #[.int .i64 0, .int .i64 0, .string ⟨#[]⟩] (.bool false) _ rfl rfl hr3 Tryd.underlying37 hsz3) rfl ⟨⟨(0, 0, ⟨#[]⟩), false, rfl, Nat.zero_le _, HNO.out⟩, hW2.grown hg3 (by omega) (fun k hk => by injection hk with hk; omega)⟩
end Go.Proofs.YtpphkdgjojnfeaaDoor
