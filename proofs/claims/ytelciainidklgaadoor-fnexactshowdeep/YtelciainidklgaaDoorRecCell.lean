/-
  Rows of Cell: what the laws' own helpers over them answer.
-/
import Derived.Test.YtelciainidklgaaDoorBaseHeld
import Derived.Test.YtelciainidklgaaDoorRecs
namespace Go.Proofs.YtelciainidklgaaDoor
open Go.RowKit
set_option linter.unusedVariables false
/-- The cells of one. -/
def cellL (x : Bool × Int × Int × Int) : List Value := [.bool x.1, .int .i64 x.2.1, .int .i64 x.2.2.1, .int .i64 x.2.2.2]
theorem cellL_len (x : Bool × Int × Int × Int) : (cellL x).length = 4 := rfl
theorem cellL_one (x : Bool × Int × Int × Int) : ∀ u ∈ cellL x, u.oneCell' = true := by
  intro u hu
  simp [cellL] at hu
  rcases hu with rfl | rfl | rfl | rfl <;> rfl
theorem zero_cell : (∀ w, (zeroValue 99).run Tryd.prog w = .ok (.agg #[.bool false, .int .i64 0, .int .i64 0, .int .i64 0]) w) ∧ (Tryd.prog.info? 99).map (·.size) = some 4 := zero_of_info (by kernel_rfl)
theorem size_laws_cell : (Tryd.prog.info? 103).map (·.size) = some 4 := by kernel_rfl
theorem info_cell : (Tryd.prog.info? 99).map (fun i => (i.zero, i.size, i.bytes)) = some (some (.agg #[.bool false, .int .i64 0, .int .i64 0, .int .i64 0]), 4, 32) := by kernel_rfl
theorem make_cell (n : Nat) (hn : n ≤ 1048576) (w : World) : (Instr.makeSlice 29 (.int .i64 (n : Int)) (.int .i64 (n : Int))).run Tryd.prog w = .ok (.slice (some ⟨w.heap.size, 0, none⟩) n n) (w.alloc (.cells ((List.replicate n ((false, 0, 0, 0) : Bool × Int × Int × Int)).flatMap cellL).toArray 99)) := by
  obtain ⟨i, hi, hzz⟩ := Option.map_eq_some_iff.1 info_cell
  simp only [Prod.mk.injEq] at hzz
  obtain ⟨hz, hs, hb⟩ := hzz
  have hr := run_make (P := Tryd.prog) w 29 99 i _ Tryd.underlying29 hi hz .i64 .i64 n n (by omega) (Int.le_refl _) (by rw [hb]; omega) (by omega)
  simp only [Int.toNat_natCast, hs] at hr
  rw [hr, ← made_rec cellL 4 cellL_len _ ((false, 0, 0, 0) : Bool × Int × Int × Int) (by rfl) n]
  rfl
set_option maxHeartbeats 1000000 in
set_option maxRecDepth 100000 in
theorem toCell_any (x : Bool × Int × Int × Int) (w : World) :
    Calls Tryd.prog 60 #[.agg (cellL x).toArray] w fun e w' => e = .returned (.agg (cellL x).toArray) ∧ Below w.heap.size w w' := by
  have hz := zero_cell.1
  obtain ⟨a, b, c, d⟩ := x
  show Calls Tryd.prog 60 #[.agg #[.bool a, .int .i64 b, .int .i64 c, .int .i64 d]] w fun e w' => e = .returned (.agg #[.bool a, .int .i64 b, .int .i64 c, .int .i64 d]) ∧ Below w.heap.size w w'
  go_enter Tryd.func60, Tryd.ntmps60
  go_wp2
  refine bodyPost_ret (v := .agg #[.bool a, .int .i64 b, .int .i64 c, .int .i64 d]) (results_cell_row Tryd.results60 _ _ (w.heap.size + 1) 99 #[.bool a, .int .i64 b, .int .i64 c, .int .i64 d] (0, 0) _ rfl (RowAt.old (by have := RowAt.new (w.alloc (.cells #[.bool a, .int .i64 b, .int .i64 c, .int .i64 d] 103)) 99 #[.bool a, .int .i64 b, .int .i64 c, .int .i64 d]; rwa [World.size_alloc] at this) _) Tryd.underlying99 rfl zero_cell.2) rfl ⟨rfl, ?_⟩
  exact (((Below.refl _ _).alloc (Nat.le_refl _) _).alloc (by simp) _).alloc (by simp; omega) _
set_option maxHeartbeats 1000000 in
set_option maxRecDepth 100000 in
theorem eqCell_any (x : Bool × Int × Int × Int) (w : World) :
    Calls Tryd.prog 65 #[.agg (cellL x).toArray, .agg (cellL x).toArray] w fun e w' => e = .returned (.bool true) ∧ Below w.heap.size w w' := by
  obtain ⟨a, b, c, d⟩ := x
  show Calls Tryd.prog 65 #[.agg #[.bool a, .int .i64 b, .int .i64 c, .int .i64 d], .agg #[.bool a, .int .i64 b, .int .i64 c, .int .i64 d]] w fun e w' => e = .returned (.bool true) ∧ Below w.heap.size w w'
  have hb0 : (a != a) = false := by cases a <;> rfl
  go_enter Tryd.func65, Tryd.ntmps65
  go_wp2
  go_ret
  exact ⟨rfl, ((Below.refl _ _).alloc (Nat.le_refl _) _).alloc (by simp) _⟩
set_option maxHeartbeats 1000000 in
set_option maxRecDepth 100000 in
theorem szCellS_any (l : List (Bool × Int × Int × Int)) (v : Value) (n : Int) (w : World) (hv : SlR w v cellL 4 l) (hn0 : 0 ≤ n) (hn1 : n ≤ 1048576) (hl : l.length ≤ maxLen) :
    Calls Tryd.prog 30 #[v, .int .i64 n] w fun e w' => (∃ r : Int, e = .returned (.int .i64 r) ∧ (r = -1 ∨ (0 ≤ r ∧ r ≤ n ∧ (l.length : Int) ≤ n))) ∧ w' = w := by
  unfold maxLen at hl
  obtain ⟨o, cap, rfl⟩ := hv.len
  clear hv
  by_cases h : n - (l.length : Int) < 0
  · go_enter Tryd.func30, Tryd.ntmps30
    go_wp2
    go_ret
    exact ⟨⟨-1, rfl, .inl rfl⟩, rfl⟩
  · go_enter Tryd.func30, Tryd.ntmps30
    go_wp2
    go_ret
    exact ⟨⟨n - (l.length : Int), rfl, .inr ⟨by omega, by omega, by omega⟩⟩, rfl⟩
set_option maxHeartbeats 1000000 in
set_option maxRecDepth 100000 in
theorem toCellS_any (l : List (Bool × Int × Int × Int)) (v : Value) (w : World) (hv : SlR w v cellL 4 l) (hl : l.length ≤ 1048576) :
    Calls Tryd.prog 35 #[v] w fun e w' => (∃ b : Nat, e = .returned (slR b l) ∧ w.heap.size ≤ b ∧ RecAt w' b 99 cellL l) ∧ Below w.heap.size w w' := by
  have HV := hideT' hv
  have hBn : Below w.heap.size w (w.alloc (.cells ((List.replicate l.length ((false, 0, 0, 0) : Bool × Int × Int × Int)).flatMap cellL).toArray 99)) := (Below.refl _ _).alloc (Nat.le_refl _) _
  have hnew : RecAt (w.alloc (.cells ((List.replicate l.length ((false, 0, 0, 0) : Bool × Int × Int × Int)).flatMap cellL).toArray 99)) w.heap.size 99 cellL (List.replicate l.length ((false, 0, 0, 0) : Bool × Int × Int × Int)) := RowAt.new w _ _
  have HN := hideT' (And.intro hnew hBn)
  clear hnew hBn
  rcases hv with ⟨rfl, rfl⟩ | ⟨A, cap, rfl, hA, hb⟩
  · have hmk : ∀ w, (Instr.makeSlice 29 (.int .i64 0) (.int .i64 0)).run Tryd.prog w = .ok (.slice (some ⟨w.heap.size, 0, none⟩) 0 0) (w.alloc (.cells ((List.replicate 0 ((false, 0, 0, 0) : Bool × Int × Int × Int)).flatMap cellL).toArray 99)) := fun w => make_cell 0 (by omega) w
    go_enter Tryd.func35, Tryd.ntmps35
    go_wp2_with fail
    clear hmk
    go_loopg [4] 0 (fun g i wr => i = .int .i64 0 ∧ RecAt wr w.heap.size 99 cellL [] ∧ Below w.heap.size w wr)
    case atStart => exact ⟨rfl, HN.out.1, HN.out.2⟩
    case round =>
      obtain ⟨rfl, hD, hW⟩ := hrel
      go_wp2
      go_ret
      exact ⟨⟨w.heap.size, rfl, Nat.le_refl _, hD⟩, hW⟩
  · have hmk := make_cell l.length hl
    go_enter Tryd.func35, Tryd.ntmps35
    go_wp2_with fail
    clear hmk
    go_loopg [4] l.length (fun g i wr => ∃ k : Nat, g = l.length - k ∧ k ≤ l.length ∧ i = .int .i64 (k : Int) ∧ RecAt wr w.heap.size 99 cellL (l.take k ++ List.replicate (l.length - k) ((false, 0, 0, 0) : Bool × Int × Int × Int)) ∧ Below w.heap.size w wr)
    case atStart => exact ⟨0, rfl, by omega, rfl, HN.out.1, HN.out.2⟩
    case round =>
      obtain ⟨k, hg, hk, rfl, hD, hW⟩ := hrel
      have hsl := hD.lt
      by_cases hlt : (k : Int) < (l.length : Int)
      · have hk' : k < l.length := by omega
        have hAr : ArgR wr A cellL 4 l := HV.out.arg hW
        obtain ⟨d, hd⟩ : ∃ d, d = l.getD k default := ⟨_, rfl⟩
        have HAr : Hid (∀ j v, (cellL d)[j]? = some v → wr.cell? ((A.add (k * 4)).add j) = some v) := fun j v hv => hAr k j v hk' (by rw [← hd]; exact hv)
        have HDM := hideT' hd
        clear hd hAr
        have hlen : (l.take k ++ List.replicate (l.length - k) ((false, 0, 0, 0) : Bool × Int × Int × Int)).length = l.length := by simp; omega
        have HLN := hideT' hlen
        clear hlen
        go_wp2_with (refine load_rec rfl 103 _ rfl (A.add (k * 4)) rfl (cellL d) _ HAr.out Tryd.underlying103 rfl size_laws_cell ?_)
        refine (toCell_any d _).mono ?_
        rintro e w2 ⟨rfl, hW2⟩
        have hD2 : RecAt w2 w.heap.size 99 cellL (l.take k ++ List.replicate (l.length - k) ((false, 0, 0, 0) : Bool × Int × Int × Int)) := hD.below hW2 hsl
        have hW3 := hW.trans (hW2.mono hW.size)
        have hs2 := hW2.size
        clear hD hW2
        go_wp2_with (refine store_rec rfl 99 _ _ rfl rfl cellL 4 cellL_len cellL_one zero_cell.2 w.heap.size k d rfl rfl _ hD2 (by rw [HLN.out]; exact hk') ?_; intro w3 hD3 hg3 hs3)
        go_roundg (l.length - (k + 1))
        case measure => omega
        case rel =>
          refine ⟨k + 1, rfl, by omega, by go_num, ?_, hW3.grown hg3 (by omega) (by intro k hk; injection hk; omega)⟩
          rw [HDM.out, rec_take_set ((false, 0, 0, 0) : Bool × Int × Int × Int) l k hk'] at hD3
          exact hD3
      · have hkn : k = l.length := by omega
        subst hkn
        have hDl : RecAt wr w.heap.size 99 cellL l := by
          have := hD
          rwa [List.take_length, Nat.sub_self, List.replicate_zero, List.append_nil] at this
        clear hD
        go_wp2
        go_ret
        exact ⟨⟨w.heap.size, rfl, Nat.le_refl _, hDl⟩, hW⟩
theorem run_cell {o : Oper} {a : Act} {w : World} (x : Operand) (ho : o.op = .load 99 x) (b i : Nat) (hx : a.eval x = .pointer (some ⟨b, i * 4, none⟩)) (l : List (Bool × Int × Int × Int)) (hD : RecAt w b 99 cellL l) (hi : i < l.length) (d : Bool × Int × Int × Int) (hd : d = l.getD i default) :
    (execOp a.eval o).run Tryd.prog w = .ok (.value (.agg (cellL d).toArray)) w := by
  subst hd
  have h := run_loadAt_mid (P := Tryd.prog) w b (i * 4) 99 (cellL (l.getD i default)) _ (hD.range cellL_len i hi) Tryd.underlying99 rfl zero_cell.2
  unfold execOp
  simp only [ho, hx, Sem.run_bind, h, Result.andThen_ok]
  rfl
set_option maxHeartbeats 1000000 in
set_option maxRecDepth 100000 in
theorem eqCellS_any (b c : Nat) (l : List (Bool × Int × Int × Int)) (w : World) (hl : l.length ≤ 1048576) (h1 : RecAt w b 99 cellL l) (h2 : RecAt w c 99 cellL l) :
    Calls Tryd.prog 41 #[slR b l, slR c l] w fun e w' => e = .returned (.bool true) ∧ Below w.heap.size w w' := by
  have H1 := hideT' h1
  have H2 := hideT' h2
  have hb := h1.lt
  have hc := h2.lt
  clear h1 h2
  go_enter Tryd.func41, Tryd.ntmps41
  go_wp2_with fail
  go_loopg [5] l.length (fun g i wr => ∃ k : Nat, g = l.length - k ∧ k ≤ l.length ∧ i = .int .i64 (k : Int) ∧ Below w.heap.size w wr)
  case atStart => exact ⟨0, rfl, by omega, rfl, Below.refl _ _⟩
  case round =>
    obtain ⟨k, hg, hk, rfl, hW⟩ := hrel
    by_cases hlt : (k : Int) < (l.length : Int)
    · have hk' : k < l.length := by omega
      obtain ⟨d, hd⟩ : ∃ d, d = l.getD k default := ⟨_, rfl⟩
      have HDM := hideT' hd
      clear hd
      have hS : RecAt wr.drew b 99 cellL l ∧ RecAt wr.drew c 99 cellL l := ⟨H1.out.below (Below.drew hW) hb, H2.out.below (Below.drew hW) hc⟩
      go_wp2_with fail
      refine held_begin (fun w' => RecAt w' b 99 cellL l ∧ RecAt w' c 99 cellL l) (by kernel_rfl) ?_
      refine held_val 0 (some 17) rfl rfl (by kernel_rfl) (by kernel_rfl) (by kernel_rfl) noPanic_put rfl (slR b l) (fun _ => rfl) hS ?_
      simp only [Act.put, List.setIfInBounds_toArray, List.set_cons_zero, List.set_cons_succ]
      refine held_val 1 (some 18) rfl rfl (by kernel_rfl) (by kernel_rfl) (by kernel_rfl) noPanic_put rfl (.int .i64 (k : Int)) (fun _ => rfl) hS ?_
      simp only [Act.put, List.setIfInBounds_toArray, List.set_cons_zero, List.set_cons_succ]
      refine held_val 2 (some 19) rfl rfl (by kernel_rfl) (by kernel_rfl) (by kernel_rfl) noPanic_put rfl (.pointer (some ⟨b, k * 4, none⟩)) (fun _ => by go_simp) hS ?_
      simp only [Act.put, List.setIfInBounds_toArray, List.set_cons_zero, List.set_cons_succ]
      refine held_valS 3 (some 20) rfl rfl (by kernel_rfl) (by kernel_rfl) (by kernel_rfl) noPanic_put rfl (.agg (cellL d).toArray) (fun _ hw' => run_cell _ rfl b k rfl l hw'.1 hk' d HDM.out) hS ?_
      simp only [Act.put, List.setIfInBounds_toArray, List.set_cons_zero, List.set_cons_succ]
      refine held_val 4 (some 21) rfl rfl (by kernel_rfl) (by kernel_rfl) (by kernel_rfl) noPanic_put rfl (slR c l) (fun _ => rfl) hS ?_
      simp only [Act.put, List.setIfInBounds_toArray, List.set_cons_zero, List.set_cons_succ]
      refine held_val 5 (some 22) rfl rfl (by kernel_rfl) (by kernel_rfl) (by kernel_rfl) noPanic_put rfl (.int .i64 (k : Int)) (fun _ => rfl) hS ?_
      simp only [Act.put, List.setIfInBounds_toArray, List.set_cons_zero, List.set_cons_succ]
      refine held_val 6 (some 23) rfl rfl (by kernel_rfl) (by kernel_rfl) (by kernel_rfl) noPanic_put rfl (.pointer (some ⟨c, k * 4, none⟩)) (fun _ => by go_simp) hS ?_
      simp only [Act.put, List.setIfInBounds_toArray, List.set_cons_zero, List.set_cons_succ]
      refine held_valS 7 (some 24) rfl rfl (by kernel_rfl) (by kernel_rfl) (by kernel_rfl) noPanic_put rfl (.agg (cellL d).toArray) (fun _ hw' => run_cell _ rfl c k rfl l hw'.2 hk' d HDM.out) hS ?_
      simp only [Act.put, List.setIfInBounds_toArray, List.set_cons_zero, List.set_cons_succ]
      refine held_call 8 (some 25) (by kernel_rfl) rfl rfl rfl 65 #[.agg (cellL d).toArray, .agg (cellL d).toArray] (by go_simp) _ (eqCell_any d wr.drew) ?_
      rintro e w2 ⟨rfl, hW2⟩
      have hW2 : Below wr.heap.size wr w2 := ⟨hW2.os, hW2.tape, hW2.output, hW2.size, hW2.block⟩
      have hW3 := hW.trans (hW2.mono hW.size)
      have hS2 : RecAt w2 b 99 cellL l ∧ RecAt w2 c 99 cellL l := ⟨H1.out.below hW3 hb, H2.out.below hW3 hc⟩
      refine ⟨_, rfl, hS2, ?_⟩
      simp only [Act.put, List.setIfInBounds_toArray, List.set_cons_zero, List.set_cons_succ]
      refine held_val 9 (some 26) rfl rfl (by kernel_rfl) (by kernel_rfl) (by kernel_rfl) noPanic_put rfl (.bool false) (fun _ => by go_simp) hS2 ?_
      simp only [Act.put, List.setIfInBounds_toArray, List.set_cons_zero, List.set_cons_succ]
      refine wpAnyH_done (by kernel_rfl) ?_ _
      refine NoPanic.normal ?_
      go_wp2
      go_roundg (l.length - (k + 1))
      case measure => omega
      case rel => exact ⟨k + 1, rfl, by omega, by go_num, hW3⟩
    · go_wp2
      go_ret
      exact ⟨rfl, hW⟩
end Go.Proofs.YtelciainidklgaaDoor
