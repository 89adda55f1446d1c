/-
  The texts DatCopy, DatArg, one behind the other, as one.
-/
import Derived.Test.YtmpghgaijphniaaGreatDoorTailGoodDataB
import Derived.Deep.Strs
import Derived.Carry
import Derived.WalkKit
import Derived.ProofKit
import Derived.OpenShut
import Derived.ShutString
import Derived.ChangeOld

/-
  The laws' copies of data, and whether two are the same.
-/
namespace Go.Proofs.YtmpghgaijphniaaGreatDoor
open Go.RowKit
set_option linter.unusedVariables false

theorem datC_set (l : List Dm) (i : Nat) (d : Dm) (hi : i < l.length) : datC (l.set i d) = ((l.take i).flatMap dmL ++ dmL d ++ (l.drop (i + 1)).flatMap dmL).toArray := by
  unfold datC
  rw [List.set_eq_take_append_cons_drop, if_pos hi, List.flatMap_append, List.flatMap_cons, List.append_assoc]
theorem datC_split (l : List Dm) (i : Nat) (hi : i < l.length) : datC l = ((l.take i).flatMap dmL ++ dmL l[i] ++ (l.drop (i + 1)).flatMap dmL).toArray := by
  have := datC_set l i l[i] hi
  rwa [List.set_getElem_self] at this
/-- A node of a row is written. -/
theorem store_dm {ops : Array Oper} {rest : List Oper} {op : Oper} {a : Act} {w : World} {Q : Exit → Act → World → Prop} (hgd : op.guard = none) (x y : Operand) (ho : op.op = .store 37 x y) (hd : op.dst = none)
    (b i : Nat) (d : Dm) (hx : a.eval x = .pointer (some ⟨b, i * 3, none⟩)) (hy : a.eval y = .agg (dmC d)) (l : List Dm) (hD : DatAt w b l) (hi : i < l.length)
    (h : ∀ w', DatAt w' b (l.set i d) → w.grownBy w' (some b) → w'.heap.size = w.heap.size → wpList Tryz.prog ops Q rest a w') : wpList Tryz.prog ops Q (op :: rest) a w := by
  have hD' : RowAt w b 37 ((l.take i).flatMap dmL ++ dmL l[i] ++ (l.drop (i + 1)).flatMap dmL).toArray := by rw [← datC_split l i hi]; exact hD
  have hlen : ((l.take i).flatMap dmL).length = i * 3 := by rw [dat_len, List.length_take]; omega
  have hth := RowAt.there hD'
  rw [hlen] at hth
  refine wpList_store_mid hgd 37 x y ho b (i * 3) (dmC d) hx hy hth zero_dm.2 (dmC_one d) ?_
  have e : a.put op.dst undef = a := by rw [hd]; rfl
  rw [e]
  have hput := RowAt.put (dmL d) (i * 3) w ((l.take i).flatMap dmL) (dmL l[i]) ((l.drop (i + 1)).flatMap dmL) rfl hlen hD'
  rw [← datC_set l i d hi] at hput
  refine h _ hput ⟨?_, ?_, ?_, ?_, ?_⟩ ?_
  · rfl
  · rfl
  · rfl
  · simp [World.setCells, dmC, dmL]
  · intro k _ hne
    simp only [World.setCells, dmC, dmL]
    have hk : k ≠ b := fun e => hne (by rw [e])
    rw [Below.heap_setCell _ _ _ _ hk, Below.heap_setCell _ _ _ _ hk, Below.heap_setCell _ _ _ _ hk]
  · simp [World.setCells, dmC, dmL]

theorem info_dm : (Tryz.prog.info? 37).map (fun i => (i.zero, i.size, i.bytes)) = some (some (.agg #[.int .i64 0, .string ⟨#[]⟩, .int .i64 0]), 3, 32) := by kernel_rfl
theorem run_make_data (n : Nat) (hn : n ≤ 1048576) (w : World) : (Instr.makeSlice 25 (.int .i64 (n : Int)) (.int .i64 (n : Int))).run Tryz.prog w = .ok (.slice (some ⟨w.heap.size, 0, none⟩) n n) (w.alloc (.cells (madeCells #[.int .i64 0, .string ⟨#[]⟩, .int .i64 0] (n * 3)) 37)) := by
  obtain ⟨i, hi, hzz⟩ := Option.map_eq_some_iff.1 info_dm
  simp only [Prod.mk.injEq] at hzz
  obtain ⟨hz, hs, hb⟩ := hzz
  have hr := run_make (P := Tryz.prog) w 25 37 i _ Tryz.underlying25 hi hz .i64 .i64 n n (by omega) (Int.le_refl _) (by rw [hb]; omega) (by omega)
  simp only [Int.toNat_natCast, hs] at hr
  exact hr
theorem made_dat (n : Nat) : madeCells #[.int .i64 0, .string ⟨#[]⟩, .int .i64 0] (n * 3) = datC (List.replicate n default) := by
  apply Array.ext_getElem?
  intro i
  by_cases hi : i < n * 3
  · have hr : (Array.range (n * 3))[i]? = some i := by rw [Array.getElem?_eq_getElem (by rw [Array.size_range]; omega), Array.getElem_range]
    have h1 := flat_get (List.replicate n default) (i / 3) (i % 3) (by simp; omega) (by omega)
    rw [show 3 * (i / 3) + i % 3 = i by omega] at h1
    have h2 : (datC (List.replicate n default))[i]? = (dmL default)[i % 3]? := by unfold datC; rw [List.getElem?_toArray, h1, List.getElem_replicate]
    rw [h2]
    simp only [madeCells, Array.getElem?_map, hr, Option.map_some]
    rcases (by omega : i % 3 = 0 ∨ i % 3 = 1 ∨ i % 3 = 2) with e | e | e
    all_goals rw [show i % (#[Value.int .i64 0, .string ⟨#[]⟩, .int .i64 0] : Array Value).size = i % 3 from rfl, e]; rfl
  · rw [Array.getElem?_eq_none (by rw [size_madeCells]; omega), Array.getElem?_eq_none]
    unfold datC
    rw [List.size_toArray, dat_len, List.length_replicate]; omega

theorem take_set (l : List Dm) (k : Nat) (hk : k < l.length) : (l.take k ++ List.replicate (l.length - k) default).set k l[k] = l.take (k + 1) ++ List.replicate (l.length - (k + 1)) default := by
  have h1 : (l.take k).length = k := by rw [List.length_take]; omega
  obtain ⟨m, hm⟩ : ∃ m, l.length - k = m + 1 := ⟨l.length - k - 1, by omega⟩
  rw [hm, List.replicate_succ, List.set_append_right _ _ (by omega), h1, Nat.sub_self, List.set_cons_zero, List.take_succ_eq_append_getElem hk, show l.length - (k + 1) = m by omega, List.append_assoc]
  rfl

set_option maxHeartbeats 1000000 in
set_option maxRecDepth 100000 in
theorem toDatumS_any (l : List Dm) (v : Value) (w : World) (hv : SlIn w v l) (hl : l.length ≤ 1048576) :
    Calls Tryz.prog 8 #[v] w fun e w' => (∃ b : Nat, e = .returned (slV b l) ∧ w.heap.size ≤ b ∧ DatAt w' b l) ∧ Below w.heap.size w w' := by
  have HV := hideT' hv
  have hnew : DatAt (w.alloc (.cells (madeCells #[.int .i64 0, .string ⟨#[]⟩, .int .i64 0] (l.length * 3)) 37)) w.heap.size (l.take 0 ++ List.replicate (l.length - 0) default) := by
    unfold DatAt
    rw [made_dat]
    exact RowAt.new w _ _
  have hBn : Below w.heap.size w (w.alloc (.cells (madeCells #[.int .i64 0, .string ⟨#[]⟩, .int .i64 0] (l.length * 3)) 37)) := (Below.refl _ _).alloc (Nat.le_refl _) _
  have HN := hideT' (And.intro hnew hBn)
  clear hnew hBn
  rcases hv with ⟨rfl, rfl⟩ | ⟨A, cap, rfl, hA, hb⟩
  · have hmk : ∀ w, (Instr.makeSlice 25 (.int .i64 0) (.int .i64 0)).run Tryz.prog w = .ok (.slice (some ⟨w.heap.size, 0, none⟩) 0 0) (w.alloc (.cells (madeCells #[.int .i64 0, .string ⟨#[]⟩, .int .i64 0] (0 * 3)) 37)) := fun w => run_make_data 0 (by omega) w
    go_enter Tryz.func8, Tryz.ntmps8
    go_wp2_with fail
    clear hmk
    go_loopg [4] 0 (fun g i wr => i = .int .i64 0 ∧ DatAt wr w.heap.size [] ∧ Below w.heap.size w wr)
    case atStart => exact ⟨rfl, HN.out.1, HN.out.2⟩
    case round =>
      obtain ⟨rfl, hD, hW⟩ := hrel
      go_wp2
      go_ret
      exact ⟨⟨w.heap.size, rfl, Nat.le_refl _, hD⟩, hW⟩
  · have hmk := run_make_data l.length hl
    go_enter Tryz.func8, Tryz.ntmps8
    go_wp2_with fail
    clear hmk
    go_loopg [4] l.length (fun g i wr => ∃ k : Nat, g = l.length - k ∧ k ≤ l.length ∧ i = .int .i64 (k : Int) ∧ DatAt wr w.heap.size (l.take k ++ List.replicate (l.length - k) default) ∧ Below w.heap.size w wr)
    case atStart => exact ⟨0, rfl, by omega, rfl, HN.out.1, HN.out.2⟩
    case round =>
      obtain ⟨k, hg, hk, rfl, hD, hW⟩ := hrel
      have hsl := RowAt.lt hD
      by_cases hlt : (k : Int) < (l.length : Int)
      · have hk' : k < l.length := by omega
        have hAr : ArgAt wr A l := by
          rcases HV.out.below hW with ⟨h1, _⟩ | ⟨A', cap', h1, h2, _⟩
          · cases h1
          · cases h1; exact h2
        obtain ⟨d, hd⟩ : ∃ d, d = l.getD k default := ⟨_, rfl⟩
        have HDM := hideT' hd.symm
        clear hd
        have hlen : (l.take k ++ List.replicate (l.length - k) default).length = l.length := by simp; omega
        have HLN := hideT' hlen
        clear hlen
        go_wp2_with (refine load_arg rfl _ rfl A k rfl l hAr hk' d HDM.out ?_)
        refine (toDatum_any d _).mono ?_
        rintro e w2 ⟨rfl, hW2⟩
        have hD2 : DatAt w2 w.heap.size (l.take k ++ List.replicate (l.length - k) default) := RowAt.below hD hW2 hsl
        have hW3 := hW.trans (hW2.mono hW.size)
        have hs2 := hW2.size
        clear hD hW2
        go_wp2_with (refine store_dm rfl _ _ rfl rfl w.heap.size k d rfl rfl _ hD2 (by rw [HLN.out]; exact hk') ?_; intro w3 hD3 hg3 hs3)
        go_roundg (l.length - (k + 1))
        case measure => omega
        case rel =>
          have h1 : d = l[k] := by rw [← HDM.out]; exact getD_at l k hk'
          refine ⟨k + 1, rfl, by omega, by go_num, ?_, hW3.grown hg3 (by omega) (by intro k hk; injection hk; omega)⟩
          rw [h1, take_set l k hk'] at hD3
          exact hD3
      · have hkn : k = l.length := by omega
        subst hkn
        have hDl : DatAt wr w.heap.size l := by
          have := hD
          rwa [List.take_length, Nat.sub_self, List.replicate_zero, List.append_nil] at this
        clear hD
        go_wp2
        go_ret
        exact ⟨⟨w.heap.size, rfl, Nat.le_refl _, hDl⟩, hW⟩

set_option maxHeartbeats 1000000 in
set_option maxRecDepth 100000 in
theorem eqDatum_any (d : Dm) (w : World) :
    Calls Tryz.prog 27 #[.agg (dmC d), .agg (dmC d)] w fun e w' => e = .returned (.bool true) ∧ Below w.heap.size w w' := by
  obtain ⟨k, t, u⟩ := d
  show Calls Tryz.prog 27 #[.agg #[.int .i64 k, .string t, .int .i64 u], .agg #[.int .i64 k, .string t, .int .i64 u]] w fun e w' => e = .returned (.bool true) ∧ Below w.heap.size w w'
  go_enter Tryz.func27, Tryz.ntmps27
  go_wp2
  go_ret
  exact ⟨rfl, ((Below.refl _ _).alloc (Nat.le_refl _) _).alloc (by simp) _⟩

theorem run_dm {o : Oper} {a : Act} {w : World} (x : Operand) (ho : o.op = .load 37 x) (b i : Nat) (hx : a.eval x = .pointer (some ⟨b, i * 3, none⟩)) (l : List Dm) (hD : DatAt w b l) (hi : i < l.length) (d : Dm) (hd : l.getD i default = d) :
    (execOp a.eval o).run Tryz.prog w = .ok (.value (.agg (dmC d))) w := by
  subst hd
  have h := run_loadAt_mid (P := Tryz.prog) w b (i * 3) 37 (dmL (l.getD i default)) _ (dat_range hD hi) Tryz.underlying37 rfl zero_dm.2
  unfold execOp
  simp only [ho, hx, Sem.run_bind, h, Result.andThen_ok]
  rfl

set_option maxHeartbeats 1000000 in
set_option maxRecDepth 100000 in
theorem eqDatumS_any (b c : Nat) (l : List Dm) (w : World) (hl : l.length ≤ 1048576) (h1 : DatAt w b l) (h2 : DatAt w c l) :
    Calls Tryz.prog 10 #[slV b l, slV c l] w fun e w' => e = .returned (.bool true) ∧ Below w.heap.size w w' := by
  have H1 := hideT' h1
  have H2 := hideT' h2
  have hb := RowAt.lt h1
  have hc := RowAt.lt h2
  clear h1 h2
  go_enter Tryz.func10, Tryz.ntmps10
  go_wp2_with fail
  go_loopg [5] l.length (fun g i wr => ∃ k : Nat, g = l.length - k ∧ k ≤ l.length ∧ i = .int .i64 (k : Int) ∧ Below w.heap.size w wr)
  case atStart => exact ⟨0, rfl, by omega, rfl, Below.refl _ _⟩
  case round =>
    obtain ⟨k, hg, hk, rfl, hW⟩ := hrel
    by_cases hlt : (k : Int) < (l.length : Int)
    · have hk' : k < l.length := by omega
      obtain ⟨d, hd⟩ : ∃ d, d = l.getD k default := ⟨_, rfl⟩
      have HDM := hideT' hd.symm
      have hS : DatAt wr.drew b l ∧ DatAt wr.drew c l := ⟨RowAt.below H1.out (Below.drew hW) hb, RowAt.below H2.out (Below.drew hW) hc⟩
      clear hd
      go_wp2_with fail
      refine held_begin (fun w' => DatAt w' b l ∧ DatAt w' c l) (by kernel_rfl) ?_
      refine held_val 0 (some 17) rfl rfl (by kernel_rfl) (by kernel_rfl) (by kernel_rfl) noPanic_put rfl (slV b l) (fun _ => rfl) hS ?_
      simp only [Act.put, List.setIfInBounds_toArray, List.set_cons_zero, List.set_cons_succ]
      refine held_val 1 (some 18) rfl rfl (by kernel_rfl) (by kernel_rfl) (by kernel_rfl) noPanic_put rfl (.int .i64 (k : Int)) (fun _ => rfl) hS ?_
      simp only [Act.put, List.setIfInBounds_toArray, List.set_cons_zero, List.set_cons_succ]
      refine held_val 2 (some 19) rfl rfl (by kernel_rfl) (by kernel_rfl) (by kernel_rfl) noPanic_put rfl (.pointer (some ⟨b, k * 3, none⟩)) (fun _ => by go_simp) hS ?_
      simp only [Act.put, List.setIfInBounds_toArray, List.set_cons_zero, List.set_cons_succ]
      refine held_valS 3 (some 20) rfl rfl (by kernel_rfl) (by kernel_rfl) (by kernel_rfl) noPanic_put rfl (.agg (dmC d)) (fun _ hw' => run_dm _ rfl b k rfl l hw'.1 hk' d HDM.out) hS ?_
      simp only [Act.put, List.setIfInBounds_toArray, List.set_cons_zero, List.set_cons_succ]
      refine held_val 4 (some 21) rfl rfl (by kernel_rfl) (by kernel_rfl) (by kernel_rfl) noPanic_put rfl (slV c l) (fun _ => rfl) hS ?_
      simp only [Act.put, List.setIfInBounds_toArray, List.set_cons_zero, List.set_cons_succ]
      refine held_val 5 (some 22) rfl rfl (by kernel_rfl) (by kernel_rfl) (by kernel_rfl) noPanic_put rfl (.int .i64 (k : Int)) (fun _ => rfl) hS ?_
      simp only [Act.put, List.setIfInBounds_toArray, List.set_cons_zero, List.set_cons_succ]
      refine held_val 6 (some 23) rfl rfl (by kernel_rfl) (by kernel_rfl) (by kernel_rfl) noPanic_put rfl (.pointer (some ⟨c, k * 3, none⟩)) (fun _ => by go_simp) hS ?_
      simp only [Act.put, List.setIfInBounds_toArray, List.set_cons_zero, List.set_cons_succ]
      refine held_valS 7 (some 24) rfl rfl (by kernel_rfl) (by kernel_rfl) (by kernel_rfl) noPanic_put rfl (.agg (dmC d)) (fun _ hw' => run_dm _ rfl c k rfl l hw'.2 hk' d HDM.out) hS ?_
      simp only [Act.put, List.setIfInBounds_toArray, List.set_cons_zero, List.set_cons_succ]
      refine held_call 8 (some 25) (by kernel_rfl) rfl rfl rfl 27 #[.agg (dmC d), .agg (dmC d)] (by go_simp) _ (eqDatum_any d wr.drew) ?_
      rintro e w2 ⟨rfl, hW2⟩
      have hW2 : Below wr.heap.size wr w2 := ⟨hW2.os, hW2.tape, hW2.output, hW2.size, hW2.block⟩
      have hW3 := hW.trans (hW2.mono hW.size)
      have hS2 : DatAt w2 b l ∧ DatAt w2 c l := ⟨RowAt.below H1.out hW3 hb, RowAt.below H2.out hW3 hc⟩
      refine ⟨_, rfl, hS2, ?_⟩
      simp only [Act.put, List.setIfInBounds_toArray, List.set_cons_zero, List.set_cons_succ]
      refine held_val 9 (some 26) rfl rfl (by kernel_rfl) (by kernel_rfl) (by kernel_rfl) noPanic_put rfl (.bool false) (fun _ => by go_simp) hS2 ?_
      simp only [Act.put, List.setIfInBounds_toArray, List.set_cons_zero, List.set_cons_succ]
      refine wpAnyH_done (by kernel_rfl) ?_ _
      refine NoPanic.normal ?_
      go_wp2
      go_roundg (l.length - (k + 1))
      case measure => omega
      case rel => exact ⟨k + 1, rfl, by omega, by go_num, hW3⟩
    · go_wp2
      go_ret
      exact ⟨rfl, hW⟩
end Go.Proofs.YtmpghgaijphniaaGreatDoor

/-
  Data that came in as an argument: what its reading says of the cells.
-/
namespace Go.Proofs.YtmpghgaijphniaaGreatDoor
open Go.ChangeShapes Go.WideShapes Go.ChangeAt Go.RowKit
set_option linter.unusedVariables false

theorem laidOut : laidOutB Tryz.prog = true := by kernel_rfl
theorem cells_ldm : Tryz.prog.cellsOf 36 = 3 := by kernel_rfl
theorem cells_int : Tryz.prog.cellsOf 3 = 1 := by kernel_rfl
theorem cells_str : Tryz.prog.cellsOf 9 = 1 := by kernel_rfl

set_option maxRecDepth 100000 in
theorem open_node {H : Type} {enc : TypeId × Value → H} {W : World} {n : Nat} {cs : List Value} {x : DataW H × List MemPlace} (hl : cs.length = 3) (h : DataW.trod enc Tryz.prog W 0 (fun _ => true) true n 36 cs = some x) :
    ∃ d : Dm, cs = dmL d ∧ d.t.size ≤ maxLen := by
  obtain ⟨y0, y1, y2, m, _, _, h0, h1, h2⟩ := Deep.trod_struct3 Tryz.underlying36 h
  obtain ⟨a, b, c, rfl⟩ : ∃ a b c, cs = [a, b, c] := by
    cases cs with
    | nil => cases hl
    | cons a cs => cases cs with
      | nil => cases hl
      | cons b cs => cases cs with
        | nil => cases hl
        | cons c cs => cases cs with
          | nil => exact ⟨a, b, c, rfl⟩
          | cons _ _ => simp at hl
  · have g0 : DataW.trod enc Tryz.prog W 0 (fun _ => true) true m 3 (([a, b, c].drop 0).take (Tryz.prog.cellsOf 3)) = some y0 := h0
    have g1 : DataW.trod enc Tryz.prog W 0 (fun _ => true) true m 9 (([a, b, c].drop 1).take (Tryz.prog.cellsOf 9)) = some y1 := h1
    have g2 : DataW.trod enc Tryz.prog W 0 (fun _ => true) true m 3 (([a, b, c].drop 2).take (Tryz.prog.cellsOf 3)) = some y2 := h2
    rw [cells_int] at g0 g2
    rw [cells_str] at g1
    obtain ⟨k, e0, _, _⟩ := DataW.trod_int Tryz.underlying3 g0
    obtain ⟨t, e1, _, ht⟩ := DataW.trod_string Tryz.underlying9 g1
    obtain ⟨u, e2, _, _⟩ := DataW.trod_int Tryz.underlying3 g2
    simp at e0 e1 e2
    exact ⟨⟨k, t, u⟩, by rw [e0, e1, e2]; rfl, ht⟩

set_option maxRecDepth 100000 in
theorem open_data {H : Type} {enc : TypeId × Value → H} {W : World} {base : Nat} {v : Value} {d : DataW H} {ps : List MemPlace} (hval : Value.okWide Tryz.prog W .any base 22 v) (h : DataW.Trod enc Tryz.prog W 0 (fun _ => true) true 22 v d ps) :
    ∃ l : List Dm, SlIn W v l ∧ (∀ i, i < l.length → (dt l i).size ≤ maxLen) ∧ l.length ≤ maxLen := by
  obtain ⟨a0, len, cap, rfl⟩ := okWide_slice Tryz.underlying22 hval
  obtain ⟨fuel, hf⟩ := h
  rcases Deep.open_slice Tryz.underlying22 hf with ⟨h1, _⟩ | ⟨a, len', cap', m, n, D, Pl, h1, hb, hl, hm, hmm, hx, hel⟩
  · refine ⟨[], .inl ⟨?_, rfl⟩, fun i hi => by simp at hi, by unfold maxLen; simp⟩
    simpa [Value.cells] using h1
  · have hs : Value.slice a0 len cap = .slice (some a) len' cap' := by simpa [Value.cells] using h1
    rw [hs]
    have hlm : len' ≤ m := by rw [hmm]; simp; exact hl
    have each : ∀ i, i < len' → ∃ d : Dm, W.cells? 0 (a.add (i * 3)) 3 = some (dmL d) ∧ d.t.size ≤ maxLen := fun i hi => by
      obtain ⟨cs', g1, g2⟩ := hel i (by omega)
      rw [cells_ldm] at g1
      obtain ⟨_, hlen, _⟩ := World.cells?_some g1
      obtain ⟨d, rfl, ht⟩ := open_node hlen g2
      exact ⟨d, g1, ht⟩
    obtain ⟨f, hfl⟩ := Deep.choose_lt each
    have hlen : ((List.range len').map f).length = len' := by simp
    have hget : ∀ i, i < len' → ((List.range len').map f).getD i default = f i := fun i hi => by simp [List.getD, hi]
    refine ⟨(List.range len').map f, .inr ⟨a, cap', by rw [hlen], fun i j v hi hv => ?_, fun h0 => ?_⟩, fun i hi => ?_, by rw [hlen]; omega⟩
    · rw [hlen] at hi
      rw [hget i hi] at hv
      obtain ⟨_, _, hc⟩ := World.cells?_some (hfl i hi).1
      have hj : j < 3 := by
        have := (List.getElem?_eq_some_iff.1 hv).1
        simpa [dmL] using this
      rw [hc j hj]
      exact hv
    · rw [hlen] at h0
      obtain ⟨_, _, hc⟩ := World.cells?_some (hfl 0 h0).1
      have h2 := hc 0 (by decide)
      have h3 : W.cell? ((a.add (0 * 3)).add 0) = some (.int .i64 (f 0).k) := by rw [h2]; rfl
      exact block_lt_of_cell (a := a) (by simpa [Addr.add] using h3)
    · rw [hlen] at hi
      unfold dt
      rw [hget i hi]
      exact (hfl i hi).2
end Go.Proofs.YtmpghgaijphniaaGreatDoor
