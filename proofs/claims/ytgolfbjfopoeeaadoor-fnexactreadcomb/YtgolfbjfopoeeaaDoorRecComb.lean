/-
  Rows of Comb: what the laws' own helpers over them answer.
-/
import Derived.Test.YtgolfbjfopoeeaaDoorRecs
import Derived.Test.YtgolfbjfopoeeaaDoorBaseHeld
namespace Go.Proofs.YtgolfbjfopoeeaaDoor
open Go.RowKit
set_option linter.unusedVariables false
/-- The cells of one. -/
def combL (x : Int × Int × Int) : List Value := [.int .i64 x.1, .int .i64 x.2.1, .int .i64 x.2.2]
theorem combL_len (x : Int × Int × Int) : (combL x).length = 3 := rfl
theorem combL_one (x : Int × Int × Int) : ∀ u ∈ combL x, u.oneCell' = true := by
  intro u hu
  simp [combL] at hu
  rcases hu with rfl | rfl | rfl <;> rfl
theorem zero_comb : (∀ w, (zeroValue 72).run Tryd.prog w = .ok (.agg #[.int .i64 0, .int .i64 0, .int .i64 0]) w) ∧ (Tryd.prog.info? 72).map (·.size) = some 3 := zero_of_info (by kernel_rfl)
theorem size_laws_comb : (Tryd.prog.info? 74).map (·.size) = some 3 := by kernel_rfl
theorem info_comb : (Tryd.prog.info? 72).map (fun i => (i.zero, i.size, i.bytes)) = some (some (.agg #[.int .i64 0, .int .i64 0, .int .i64 0]), 3, 24) := by kernel_rfl
theorem make_comb (n : Nat) (hn : n ≤ 1048576) (w : World) : (Instr.makeSlice 37 (.int .i64 (n : Int)) (.int .i64 (n : Int))).run Tryd.prog w = .ok (.slice (some ⟨w.heap.size, 0, none⟩) n n) (w.alloc (.cells ((List.replicate n ((0, 0, 0) : Int × Int × Int)).flatMap combL).toArray 72)) := by
  obtain ⟨i, hi, hzz⟩ := Option.map_eq_some_iff.1 info_comb
  simp only [Prod.mk.injEq] at hzz
  obtain ⟨hz, hs, hb⟩ := hzz
  have hr := run_make (P := Tryd.prog) w 37 72 i _ Tryd.underlying37 hi hz .i64 .i64 n n (by omega) (Int.le_refl _) (by rw [hb]; omega) (by omega)
  simp only [Int.toNat_natCast, hs] at hr
  rw [hr, ← made_rec combL 3 combL_len _ ((0, 0, 0) : Int × Int × Int) (by rfl) n]
  rfl
set_option maxHeartbeats 1000000 in
set_option maxRecDepth 100000 in
theorem toComb_any (x : Int × Int × Int) (w : World) :
    Calls Tryd.prog 39 #[.agg (combL x).toArray] w fun e w' => e = .returned (.agg (combL x).toArray) ∧ Below w.heap.size w w' := by
  have hz := zero_comb.1
  obtain ⟨a, b, c⟩ := x
  show Calls Tryd.prog 39 #[.agg #[.int .i64 a, .int .i64 b, .int .i64 c]] w fun e w' => e = .returned (.agg #[.int .i64 a, .int .i64 b, .int .i64 c]) ∧ Below w.heap.size w w'
  go_enter Tryd.func39, Tryd.ntmps39
  go_wp2
  refine bodyPost_ret (v := .agg #[.int .i64 a, .int .i64 b, .int .i64 c]) (results_cell_row Tryd.results39 _ _ (w.heap.size + 1) 72 #[.int .i64 a, .int .i64 b, .int .i64 c] (0, 0) _ rfl (RowAt.old (by have := RowAt.new (w.alloc (.cells #[.int .i64 a, .int .i64 b, .int .i64 c] 74)) 72 #[.int .i64 a, .int .i64 b, .int .i64 c]; rwa [World.size_alloc] at this) _) Tryd.underlying72 rfl zero_comb.2) rfl ⟨rfl, ?_⟩
  exact (((Below.refl _ _).alloc (Nat.le_refl _) _).alloc (by simp) _).alloc (by simp; omega) _
set_option maxHeartbeats 1000000 in
set_option maxRecDepth 100000 in
theorem eqComb_any (x : Int × Int × Int) (w : World) :
    Calls Tryd.prog 42 #[.agg (combL x).toArray, .agg (combL x).toArray] w fun e w' => e = .returned (.bool true) ∧ Below w.heap.size w w' := by
  obtain ⟨a, b, c⟩ := x
  show Calls Tryd.prog 42 #[.agg #[.int .i64 a, .int .i64 b, .int .i64 c], .agg #[.int .i64 a, .int .i64 b, .int .i64 c]] w fun e w' => e = .returned (.bool true) ∧ Below w.heap.size w w'
  go_enter Tryd.func42, Tryd.ntmps42
  go_wp2
  go_ret
  exact ⟨rfl, ((Below.refl _ _).alloc (Nat.le_refl _) _).alloc (by simp) _⟩
set_option maxHeartbeats 1000000 in
set_option maxRecDepth 100000 in
theorem szCombS_any (l : List (Int × Int × Int)) (v : Value) (n : Int) (w : World) (hv : SlR w v combL 3 l) (hn0 : 0 ≤ n) (hn1 : n ≤ 1048576) (hl : l.length ≤ maxLen) :
    Calls Tryd.prog 16 #[v, .int .i64 n] w fun e w' => (∃ r : Int, e = .returned (.int .i64 r) ∧ (r = -1 ∨ (0 ≤ r ∧ r ≤ n ∧ (l.length : Int) ≤ n))) ∧ w' = w := by
  unfold maxLen at hl
  obtain ⟨o, cap, rfl⟩ := hv.len
  clear hv
  by_cases h : n - (l.length : Int) < 0
  · go_enter Tryd.func16, Tryd.ntmps16
    go_wp2
    go_ret
    exact ⟨⟨-1, rfl, .inl rfl⟩, rfl⟩
  · go_enter Tryd.func16, Tryd.ntmps16
    go_wp2
    go_ret
    exact ⟨⟨n - (l.length : Int), rfl, .inr ⟨by omega, by omega, by omega⟩⟩, rfl⟩
set_option maxHeartbeats 1000000 in
set_option maxRecDepth 100000 in
theorem toCombS_any (l : List (Int × Int × Int)) (v : Value) (w : World) (hv : SlR w v combL 3 l) (hl : l.length ≤ 1048576) :
    Calls Tryd.prog 18 #[v] w fun e w' => (∃ b : Nat, e = .returned (slR b l) ∧ w.heap.size ≤ b ∧ RecAt w' b 72 combL l) ∧ Below w.heap.size w w' := by
  have HV := hideT' hv
  have hBn : Below w.heap.size w (w.alloc (.cells ((List.replicate l.length ((0, 0, 0) : Int × Int × Int)).flatMap combL).toArray 72)) := (Below.refl _ _).alloc (Nat.le_refl _) _
  have hnew : RecAt (w.alloc (.cells ((List.replicate l.length ((0, 0, 0) : Int × Int × Int)).flatMap combL).toArray 72)) w.heap.size 72 combL (List.replicate l.length ((0, 0, 0) : Int × Int × Int)) := RowAt.new w _ _
  have HN := hideT' (And.intro hnew hBn)
  clear hnew hBn
  rcases hv with ⟨rfl, rfl⟩ | ⟨A, cap, rfl, hA, hb⟩
  · have hmk : ∀ w, (Instr.makeSlice 37 (.int .i64 0) (.int .i64 0)).run Tryd.prog w = .ok (.slice (some ⟨w.heap.size, 0, none⟩) 0 0) (w.alloc (.cells ((List.replicate 0 ((0, 0, 0) : Int × Int × Int)).flatMap combL).toArray 72)) := fun w => make_comb 0 (by omega) w
    go_enter Tryd.func18, Tryd.ntmps18
    go_wp2_with fail
    clear hmk
    go_loopg [4] 0 (fun g i wr => i = .int .i64 0 ∧ RecAt wr w.heap.size 72 combL [] ∧ Below w.heap.size w wr)
    case atStart => exact ⟨rfl, HN.out.1, HN.out.2⟩
    case round =>
      obtain ⟨rfl, hD, hW⟩ := hrel
      go_wp2
      go_ret
      exact ⟨⟨w.heap.size, rfl, Nat.le_refl _, hD⟩, hW⟩
  · have hmk := make_comb l.length hl
    go_enter Tryd.func18, Tryd.ntmps18
    go_wp2_with fail
    clear hmk
    go_loopg [4] l.length (fun g i wr => ∃ k : Nat, g = l.length - k ∧ k ≤ l.length ∧ i = .int .i64 (k : Int) ∧ RecAt wr w.heap.size 72 combL (l.take k ++ List.replicate (l.length - k) ((0, 0, 0) : Int × Int × Int)) ∧ Below w.heap.size w wr)
    case atStart => exact ⟨0, rfl, by omega, rfl, HN.out.1, HN.out.2⟩
    case round =>
      obtain ⟨k, hg, hk, rfl, hD, hW⟩ := hrel
      have hsl := hD.lt
      by_cases hlt : (k : Int) < (l.length : Int)
      · have hk' : k < l.length := by omega
        have hAr : ArgR wr A combL 3 l := HV.out.arg hW
        obtain ⟨d, hd⟩ : ∃ d, d = l.getD k default := ⟨_, rfl⟩
        have HAr : Hid (∀ j v, (combL d)[j]? = some v → wr.cell? ((A.add (k * 3)).add j) = some v) := fun j v hv => hAr k j v hk' (by rw [← hd]; exact hv)
        have HDM := hideT' hd
        clear hd hAr
        have hlen : (l.take k ++ List.replicate (l.length - k) ((0, 0, 0) : Int × Int × Int)).length = l.length := by simp; omega
        have HLN := hideT' hlen
        clear hlen
        go_wp2_with (refine load_rec rfl 74 _ rfl (A.add (k * 3)) rfl (combL d) _ HAr.out Tryd.underlying74 rfl size_laws_comb ?_)
        refine (toComb_any d _).mono ?_
        rintro e w2 ⟨rfl, hW2⟩
        have hD2 : RecAt w2 w.heap.size 72 combL (l.take k ++ List.replicate (l.length - k) ((0, 0, 0) : Int × Int × Int)) := hD.below hW2 hsl
        have hW3 := hW.trans (hW2.mono hW.size)
        have hs2 := hW2.size
        clear hD hW2
        go_wp2_with (refine store_rec rfl 72 _ _ rfl rfl combL 3 combL_len combL_one zero_comb.2 w.heap.size k d rfl rfl _ hD2 (by rw [HLN.out]; exact hk') ?_; intro w3 hD3 hg3 hs3)
        go_roundg (l.length - (k + 1))
        case measure => omega
        case rel =>
          refine ⟨k + 1, rfl, by omega, by go_num, ?_, hW3.grown hg3 (by omega) (by intro k hk; injection hk; omega)⟩
          rw [HDM.out, rec_take_set ((0, 0, 0) : Int × Int × Int) l k hk'] at hD3
          exact hD3
      · have hkn : k = l.length := by omega
        subst hkn
        have hDl : RecAt wr w.heap.size 72 combL l := by
          have := hD
          rwa [List.take_length, Nat.sub_self, List.replicate_zero, List.append_nil] at this
        clear hD
        go_wp2
        go_ret
        exact ⟨⟨w.heap.size, rfl, Nat.le_refl _, hDl⟩, hW⟩
theorem run_comb {o : Oper} {a : Act} {w : World} (x : Operand) (ho : o.op = .load 72 x) (b i : Nat) (hx : a.eval x = .pointer (some ⟨b, i * 3, none⟩)) (l : List (Int × Int × Int)) (hD : RecAt w b 72 combL l) (hi : i < l.length) (d : Int × Int × Int) (hd : d = l.getD i default) :
    (execOp a.eval o).run Tryd.prog w = .ok (.value (.agg (combL d).toArray)) w := by
  subst hd
  have h := run_loadAt_mid (P := Tryd.prog) w b (i * 3) 72 (combL (l.getD i default)) _ (hD.range combL_len i hi) Tryd.underlying72 rfl zero_comb.2
  unfold execOp
  simp only [ho, hx, Sem.run_bind, h, Result.andThen_ok]
  rfl
set_option maxHeartbeats 1000000 in
set_option maxRecDepth 100000 in
theorem eqCombS_any (b c : Nat) (l : List (Int × Int × Int)) (w : World) (hl : l.length ≤ 1048576) (h1 : RecAt w b 72 combL l) (h2 : RecAt w c 72 combL l) :
    Calls Tryd.prog 20 #[slR b l, slR c l] w fun e w' => e = .returned (.bool true) ∧ Below w.heap.size w w' := by
  have H1 := hideT' h1
  have H2 := hideT' h2
  have hb := h1.lt
  have hc := h2.lt
  clear h1 h2
  go_enter Tryd.func20, Tryd.ntmps20
  go_wp2_with fail
  go_loopg [5] l.length (fun g i wr => ∃ k : Nat, g = l.length - k ∧ k ≤ l.length ∧ i = .int .i64 (k : Int) ∧ Below w.heap.size w wr)
  case atStart => exact ⟨0, rfl, by omega, rfl, Below.refl _ _⟩
  case round =>
    obtain ⟨k, hg, hk, rfl, hW⟩ := hrel
    by_cases hlt : (k : Int) < (l.length : Int)
    · have hk' : k < l.length := by omega
      obtain ⟨d, hd⟩ : ∃ d, d = l.getD k default := ⟨_, rfl⟩
      have HDM := hideT' hd
      clear hd
      have hS : RecAt wr.drew b 72 combL l ∧ RecAt wr.drew c 72 combL l := ⟨H1.out.below (Below.drew hW) hb, H2.out.below (Below.drew hW) hc⟩
      go_wp2_with fail
      refine held_begin (fun w' => RecAt w' b 72 combL l ∧ RecAt w' c 72 combL l) (by kernel_rfl) ?_
      refine held_val 0 (some 17) rfl rfl (by kernel_rfl) (by kernel_rfl) (by kernel_rfl) noPanic_put rfl (slR b l) (fun _ => rfl) hS ?_
      simp only [Act.put, List.setIfInBounds_toArray, List.set_cons_zero, List.set_cons_succ]
      refine held_val 1 (some 18) rfl rfl (by kernel_rfl) (by kernel_rfl) (by kernel_rfl) noPanic_put rfl (.int .i64 (k : Int)) (fun _ => rfl) hS ?_
      simp only [Act.put, List.setIfInBounds_toArray, List.set_cons_zero, List.set_cons_succ]
      refine held_val 2 (some 19) rfl rfl (by kernel_rfl) (by kernel_rfl) (by kernel_rfl) noPanic_put rfl (.pointer (some ⟨b, k * 3, none⟩)) (fun _ => by go_simp) hS ?_
      simp only [Act.put, List.setIfInBounds_toArray, List.set_cons_zero, List.set_cons_succ]
      refine held_valS 3 (some 20) rfl rfl (by kernel_rfl) (by kernel_rfl) (by kernel_rfl) noPanic_put rfl (.agg (combL d).toArray) (fun _ hw' => run_comb _ rfl b k rfl l hw'.1 hk' d HDM.out) hS ?_
      simp only [Act.put, List.setIfInBounds_toArray, List.set_cons_zero, List.set_cons_succ]
      refine held_val 4 (some 21) rfl rfl (by kernel_rfl) (by kernel_rfl) (by kernel_rfl) noPanic_put rfl (slR c l) (fun _ => rfl) hS ?_
      simp only [Act.put, List.setIfInBounds_toArray, List.set_cons_zero, List.set_cons_succ]
      refine held_val 5 (some 22) rfl rfl (by kernel_rfl) (by kernel_rfl) (by kernel_rfl) noPanic_put rfl (.int .i64 (k : Int)) (fun _ => rfl) hS ?_
      simp only [Act.put, List.setIfInBounds_toArray, List.set_cons_zero, List.set_cons_succ]
      refine held_val 6 (some 23) rfl rfl (by kernel_rfl) (by kernel_rfl) (by kernel_rfl) noPanic_put rfl (.pointer (some ⟨c, k * 3, none⟩)) (fun _ => by go_simp) hS ?_
      simp only [Act.put, List.setIfInBounds_toArray, List.set_cons_zero, List.set_cons_succ]
      refine held_valS 7 (some 24) rfl rfl (by kernel_rfl) (by kernel_rfl) (by kernel_rfl) noPanic_put rfl (.agg (combL d).toArray) (fun _ hw' => run_comb _ rfl c k rfl l hw'.2 hk' d HDM.out) hS ?_
      simp only [Act.put, List.setIfInBounds_toArray, List.set_cons_zero, List.set_cons_succ]
      refine held_call 8 (some 25) (by kernel_rfl) rfl rfl rfl 42 #[.agg (combL d).toArray, .agg (combL d).toArray] (by go_simp) _ (eqComb_any d wr.drew) ?_
      rintro e w2 ⟨rfl, hW2⟩
      have hW2 : Below wr.heap.size wr w2 := ⟨hW2.os, hW2.tape, hW2.output, hW2.size, hW2.block⟩
      have hW3 := hW.trans (hW2.mono hW.size)
      have hS2 : RecAt w2 b 72 combL l ∧ RecAt w2 c 72 combL l := ⟨H1.out.below hW3 hb, H2.out.below hW3 hc⟩
      refine ⟨_, rfl, hS2, ?_⟩
      simp only [Act.put, List.setIfInBounds_toArray, List.set_cons_zero, List.set_cons_succ]
      refine held_val 9 (some 26) rfl rfl (by kernel_rfl) (by kernel_rfl) (by kernel_rfl) noPanic_put rfl (.bool false) (fun _ => by go_simp) hS2 ?_
      simp only [Act.put, List.setIfInBounds_toArray, List.set_cons_zero, List.set_cons_succ]
      refine wpAnyH_done (by kernel_rfl) ?_ _
      refine NoPanic.normal ?_
      go_wp2
      go_roundg (l.length - (k + 1))
      case measure => omega
      case rel => exact ⟨k + 1, rfl, by omega, by go_num, hW3⟩
    · go_wp2
      go_ret
      exact ⟨rfl, hW⟩
end Go.Proofs.YtgolfbjfopoeeaaDoor
