/-
  What impl's copied makes: a heap with rows of its own.
-/
import Derived.Test.YtoaancgmahdbnaaImplKeep
import Derived.Laws.CopyRow
namespace Go.Proofs.Ytoaancgmahdbnaa
open Go.RowKit Go.Shelf BL
set_option linter.unusedVariables false
attribute [local go_sem] Oper.semAt_some

/-- One of the operations that may come up gives a value and changes the world. -/
theorem ready_valH {ops : Array Oper} {Q : Exit → Act → World → Prop} {md : Region.Mode} {S : World → Prop} {o : Oper} {fuel : Nat} {listed : Array Bool} {a : Act} {w : World} {rs : List Nat} (i : Nat) (d : Option Tmp) (hi : ops[i]? = some o) (hw : Region.wanted o (yielded ops a.tmps) = true) (hd : o.dst = d) (v : Value) (w' : World)
    (he : (execOp a.eval o).run Try.prog w = .ok (.value v) w') (hS : S w') (h : wpAnyH Try.prog md ops Q S fuel (listed.setIfInBounds i true) (a.put d v) w') (hs : AllReadyH Try.prog md ops Q S fuel listed a w rs) : AllReadyH Try.prog md ops Q S fuel listed a w (i :: rs) := by
  subst hd
  refine AllReadyH.cons hi (fun K hK => ?_) hs
  rw [if_pos hw]
  unfold Oper.wp
  rw [he]
  exact hK.out _ _ hS (fun _ => h)
theorem run_makeH {o : Oper} {a : Act} {w w' : World} (T : TypeId) (x : Operand) (ho : o.op = .makeSlice T x x) (v r : Value) (hx : a.eval x = v) (h : (Instr.makeSlice T v v).run Try.prog w = .ok r w') : (execOp a.eval o).run Try.prog w = .ok (.value r) w' := by
  unfold execOp
  simp only [ho, hx, Sem.run_bind, h, Result.andThen_ok]
  rfl
theorem run_allocH {o : Oper} {a : Act} {w : World} {T : TypeId} {zero : Array Value} (ho : o.op = .alloc T) (hz : ∀ w, (zeroValue T).run Try.prog w = .ok (.agg zero) w) :
    (execOp a.eval o).run Try.prog w = .ok (.value (.pointer (some ⟨w.heap.size, 0, none⟩))) (w.alloc (.cells zero T)) := by
  unfold execOp
  simp only [ho]
  go_simp
/-- Copying, as an operation. -/
theorem run_copyH {o : Oper} {a : Act} {w w' : World} (x y : Operand) (t : TypeId) (ho : o.op = .call { callee := .builtin .copy, args := #[x, y], argTypes := #[t, t] }) (u v r : Value) (hx : a.eval x = u) (hy : a.eval y = v) (h : (Builtin.copy_ #[t, t] o.type #[u, v]).run Try.prog w = .ok r w') :
    (execOp a.eval o).run Try.prog w = .ok (.value r) w' := by
  unfold execOp
  simp only [ho, resolve, invoke, builtin, Sem.run_bind, Sem.run_pure, Result.andThen_ok, List.map_toArray, List.map_cons, List.map_nil, hx, hy, h]
theorem inR_flat {X : Type} [Inhabited X] {w : World} {g n cap c : Nat} {f : X → List Value} {l : List X} (hc : ∀ x, (f x).length = c) (hc0 : 0 < c) (h : ∀ i j u, i < l.length → (f (l.getD i default))[j]? = some u → w.cell? ⟨g, i * c + j, none⟩ = some u) (j : Nat) (v : Value) (hv : (l.flatMap f)[j]? = some v) : w.cell? ((⟨g, 0, none⟩ : Addr).add j) = some v := by
  have hj : j < l.length * c := by have := (List.getElem?_eq_some_iff.1 hv).1; rwa [rec_len f c hc] at this
  have hi : j / c < l.length := Nat.div_lt_of_lt_mul (by rwa [Nat.mul_comm] at hj)
  have hm : j % c < c := Nat.mod_lt _ hc0
  have e : j / c * c + j % c = j := by rw [Nat.mul_comm]; exact Nat.div_add_mod j c
  have := h (j / c) (j % c) v hi (by rw [← rec_get f c hc l (j / c) (j % c) hi hm, e]; exact hv)
  rw [e] at this
  rw [Addr.add_mid, Nat.zero_add]; exact this
/-- A row that can be read is copied into a row of its length. -/
theorem run_copyR {X : Type} [Inhabited X] (w : World) (dT elem ty : TypeId) (c : Nat) (f : X → List Value) (hc : ∀ x, (f x).length = c) (hc0 : 0 < c) (hone : ∀ x, ∀ u ∈ f x, u.oneCell' = true) (l l0 : List X) (g cap : Nat) (o : Option Addr) (T : TypeId)
    (hu : Try.prog.underlying dT = some (.slice elem)) (hs : (Try.prog.info? elem).map (·.size) = some c) (hg : RecAt w g T f l0) (hl : l0.length = l.length) (hin : InR w (.slice o l.length cap) f c l) :
    ∃ w', (Builtin.copy_ #[dT, dT] ty #[.slice (some ⟨g, 0, none⟩) l.length l.length, .slice o l.length cap]).run Try.prog w = .ok (goInt l.length) w' ∧ RecAt w' g T f l ∧ w.grownBy w' (some g) ∧ w'.heap.size = w.heap.size := by
  cases hq : Try.prog.info? elem with
  | none => simp [hq] at hs
  | some i =>
  have hi : i.size = c := by simpa [hq] using hs
  obtain ⟨o', cap', e, hin⟩ := hin
  cases e
  by_cases hne : l = []
  · subst hne
    have h0 : l0 = [] := List.length_eq_zero_iff.1 hl
    subst h0
    refine ⟨w, ?_, hg, ⟨rfl, rfl, rfl, Nat.le_refl _, fun _ _ _ => rfl⟩, rfl⟩
    cases o <;> simp [Builtin.copy_, run_underlying hu, Builtin.lenOf, Builtin.firstCells, sizeOf, typeInfo, hq, storeCells, loadCells, loadCellsFrom]
  · obtain ⟨b, rfl, hb, hcs⟩ := hin hne
    have hl' := run_loadCells_list (P := Try.prog) w ⟨b, 0, none⟩ (l.flatMap f) (inR_flat (n := l.length) (cap := cap) hc hc0 hcs)
    rw [rec_len f c hc] at hl'
    have hst := run_storeCells_at Try.prog g 0 T (l.flatMap f) 0 _ w hg (by simp [rec_len f c hc, hl]) ((fun u hu => by obtain ⟨x, _, hx⟩ := List.mem_flatMap.1 hu; exact hone x u hx))
    refine ⟨w.setRow g (l.flatMap f).toArray, ?_, setRow_heap _ _ _ _ _ _ hg, ⟨rfl, rfl, rfl, by simp, fun k _ hne => setRow_other w g k _ (by intro e; exact hne (by rw [e]))⟩, by simp⟩
    have hrow : ((l0.flatMap f).toArray.toList.take (0 + 0) ++ l.flatMap f ++ (l0.flatMap f).toArray.toList.drop (0 + 0 + (l.flatMap f).length)) = l.flatMap f := by
      rw [List.drop_eq_nil_of_le (by simp [rec_len f c hc, hl])]; simp
    rw [hrow] at hst
    simp [Builtin.copy_, run_underlying hu, Builtin.lenOf, Builtin.firstCells, sizeOf, typeInfo, hq, hi, hl', hst]

set_option maxRecDepth 100000 in
set_option maxHeartbeats 8000000 in
theorem copied_any (m : Hp) (hb : Nat) (v1 v2 : Value) (w : World) (h0 : w.cell? ⟨hb, 0, none⟩ = some (.int .i64 m.old)) (h1 : w.cell? ⟨hb, 1, none⟩ = some v1) (h2 : w.cell? ⟨hb, 2, none⟩ = some v2) (hM : HpRd w v1 v2 m) (hl1 : m.cells.length ≤ 200) (hl2 : m.roots.length ≤ 60) :
    Calls Try.prog 70 #[.pointer (some ⟨hb, 0, none⟩)] w fun e w' => (∃ v1 v2, e = .returned (.agg #[.int .i64 m.old, v1, v2]) ∧ OwnR w' w.heap.size v1 59 cellL 4 m.cells ∧ OwnR w' w.heap.size v2 3 intL 1 m.roots) ∧ Below w.heap.size w w' := by
  obtain ⟨o1, c1, e1, g1⟩ := hM.1
  obtain ⟨o2, c2, e2, g2⟩ := hM.2
  subst e1 e2
  have hz := zero_hp.1
  have hbl : hb < w.heap.size := block_lt_of_cell (a := ⟨hb, 1, none⟩) h1
  have HF : Hid (∀ w', Below w.heap.size w w' → (w'.cell? ⟨hb, 0, none⟩ = some (.int .i64 m.old) ∧ w'.cell? ⟨hb, 1, none⟩ = some (.slice o1 m.cells.length c1) ∧ w'.cell? ⟨hb, 2, none⟩ = some (.slice o2 m.roots.length c2)) ∧ InR w' (.slice o1 m.cells.length c1) cellL 4 m.cells ∧ InR w' (.slice o2 m.roots.length c2) intL 1 m.roots) := fun w' h => ⟨⟨(h.cell (p := ⟨hb, 0, none⟩) hbl).trans h0, (h.cell (p := ⟨hb, 1, none⟩) hbl).trans h1, (h.cell (p := ⟨hb, 2, none⟩) hbl).trans h2⟩, hM.1.below h, hM.2.below h⟩
  obtain ⟨n1, hn1⟩ : ∃ n, n = m.cells.length := ⟨_, rfl⟩
  obtain ⟨n2, hn2⟩ : ∃ n, n = m.roots.length := ⟨_, rfl⟩
  have HN1 := hideT' hn1
  have HN2 := hideT' hn2
  rw [← hn1, ← hn2] at HF
  rw [← hn1] at hl1
  rw [← hn2] at hl2
  clear hM g1 g2 h0 h1 h2 hn1 hn2
  have hmk1 := make_cell n1 (by omega)
  have hmk2 := make_int n2 (by omega)
  have HMK1 := hideT' hmk1
  have HMK2 := hideT' hmk2
  clear hmk1 hmk2
  go_enter Try.func70, Try.ntmps70
  go_wp2_with fail
  obtain ⟨w0, hw0⟩ : ∃ w0, w0 = w.alloc (.cells #[.int .i64 0, .slice none 0 0, .slice none 0 0] 48) := ⟨_, rfl⟩
  have hB0 : Below w.heap.size w w0 := by rw [hw0]; exact (Below.refl _ _).alloc (Nat.le_refl _) _
  have hs0 : w0.heap.size = w.heap.size + 1 := by rw [hw0]; simp
  have hX0 : RowAt w0 w.heap.size 48 #[.int .i64 0, .slice none 0 0, .slice none 0 0] := by rw [hw0]; exact RowAt.new _ _ _
  rw [← hw0]
  clear hw0
  have HF0 : Hid (∀ W, Below w0.heap.size w0 W → (World.cell? W ⟨hb, 0, none⟩ = some (.int .i64 m.old) ∧ World.cell? W ⟨hb, 1, none⟩ = some (.slice o1 n1 c1) ∧ World.cell? W ⟨hb, 2, none⟩ = some (.slice o2 n2 c2)) ∧ InR W (.slice o1 n1 c1) cellL 4 m.cells ∧ InR W (.slice o2 n2 c2) intL 1 m.roots) := fun W h => HF.out W (hB0.trans (h.mono (by omega)))
  have HSB : Hid (∀ W, Below w0.heap.size w0 W → (World.cell? W ⟨hb, 0, none⟩ = some (.int .i64 m.old) ∧ World.cell? W ⟨hb, 1, none⟩ = some (.slice o1 n1 c1) ∧ World.cell? W ⟨hb, 2, none⟩ = some (.slice o2 n2 c2))) := fun W h => (HF0.out W h).1
  have HX0 := hideT' (And.intro hX0 hB0)
  clear hX0 hB0 HF
  rename_i K hK
  have HKK : Hid (∀ (b1 b2 bo : Nat) (w4 : World), w0.heap.size ≤ b1 → w0.heap.size ≤ b2 → w0.heap.size ≤ bo → b1 ≠ b2 → b1 ≠ bo → b2 ≠ bo → RowAt w4 bo 48 #[.int .i64 m.old, .slice (some ⟨b1, 0, none⟩) n1 n1, .slice (some ⟨b2, 0, none⟩) n2 n2] → RecAt w4 b1 59 cellL (List.replicate n1 ((false, 0, 0, 0) : Bool × Int × Int × Int)) → RecAt w4 b2 3 intL (List.replicate n2 (0 : Int)) → Below w0.heap.size w0 w4 → K ⟨#[.pointer (some ⟨hb, 0, none⟩), undef, .pointer (some ⟨w.heap.size, 0, none⟩), .pointer (some ⟨bo, 0, none⟩), .pointer (some ⟨hb, 0, none⟩), .pointer (some ⟨hb, 0, none⟩), .pointer (some ⟨hb, 0, none⟩), .int .i64 m.old, .pointer (some ⟨hb, 0, none⟩), .pointer (some ⟨hb, 0, none⟩), .pointer (some ⟨hb, 1, none⟩), .slice o1 n1 c1, .int .i64 (n1 : Int), .slice (some ⟨b1, 0, none⟩) n1 n1, .pointer (some ⟨hb, 0, none⟩), .pointer (some ⟨hb, 0, none⟩), .pointer (some ⟨hb, 2, none⟩), .slice o2 n2 c2, .int .i64 (n2 : Int), .slice (some ⟨b2, 0, none⟩) n2 n2, .agg #[.int .i64 m.old, .slice (some ⟨b1, 0, none⟩) n1 n1, .slice (some ⟨b2, 0, none⟩) n2 n2], undef, undef, undef, undef, undef, undef, undef, undef, undef, undef, undef, undef, undef, undef, undef], []⟩ w4) := by
    intro b1 b2 bo w4 hb1 hb2 hbo hb12 hb1o hb2o xo4 x14 x24 hB4
    refine hK _ _ ?_
    have H4 := hideT' (And.intro xo4 (And.intro x14 (And.intro x24 hB4)))
    clear xo4 x14 x24 hB4
    go_wp2_with fail
    obtain ⟨xo4, x14, x24, hB4⟩ := H4.out
    have hSc : RowAt w4.drew (bo) 48 #[.int .i64 m.old, .slice (some ⟨b1, 0, none⟩) n1 n1, .slice (some ⟨b2, 0, none⟩) n2 n2] ∧ Below w0.heap.size w0 w4.drew := ⟨xo4, hB4.drew⟩
    refine held_begin (fun w' => RowAt w' (bo) 48 #[.int .i64 m.old, .slice (some ⟨b1, 0, none⟩) n1 n1, .slice (some ⟨b2, 0, none⟩) n2 n2] ∧ Below w0.heap.size w0 w') (by kernel_rfl) ?_
    refine held_val 0 (some 21) rfl rfl (by kernel_rfl) (by kernel_rfl) (by kernel_rfl) noPanic_put rfl (.pointer (some ⟨bo, 1, none⟩)) (fun _ => by go_simp) hSc ?_
    simp only [Act.put, List.setIfInBounds_toArray, List.set_cons_zero, List.set_cons_succ]
    refine held_valS 1 (some 22) rfl rfl (by kernel_rfl) (by kernel_rfl) (by kernel_rfl) noPanic_put rfl (.slice (some ⟨b1, 0, none⟩) n1 n1) (fun w' h => run_cell1 (.tmp 21) 28 rfl ⟨bo, 1, none⟩ rfl _ Try.underlying28 rfl (by rw [cell_of_row w' _ _ _ _ _ h.1]; rfl)) hSc ?_
    simp only [Act.put, List.setIfInBounds_toArray, List.set_cons_zero, List.set_cons_succ]
    refine held_val 2 (some 23) rfl rfl (by kernel_rfl) (by kernel_rfl) (by kernel_rfl) noPanic_put rfl (.pointer (some ⟨hb, 0, none⟩)) (fun _ => by go_simp) hSc ?_
    simp only [Act.put, List.setIfInBounds_toArray, List.set_cons_zero, List.set_cons_succ]
    refine held_val 3 (some 24) rfl rfl (by kernel_rfl) (by kernel_rfl) (by kernel_rfl) noPanic_put rfl (.pointer (some ⟨hb, 0, none⟩)) (fun _ => by go_simp) hSc ?_
    simp only [Act.put, List.setIfInBounds_toArray, List.set_cons_zero, List.set_cons_succ]
    refine held_val 4 (some 25) rfl rfl (by kernel_rfl) (by kernel_rfl) (by kernel_rfl) noPanic_put rfl (.pointer (some ⟨hb, 1, none⟩)) (fun _ => by go_simp) hSc ?_
    simp only [Act.put, List.setIfInBounds_toArray, List.set_cons_zero, List.set_cons_succ]
    refine held_valS 5 (some 26) rfl rfl (by kernel_rfl) (by kernel_rfl) (by kernel_rfl) noPanic_put rfl (.slice o1 n1 c1) (fun w' h => run_cell1 (.tmp 25) 28 rfl ⟨hb, 1, none⟩ rfl _ Try.underlying28 rfl (HF0.out w' h.2).1.2.1) hSc ?_
    simp only [Act.put, List.setIfInBounds_toArray, List.set_cons_zero, List.set_cons_succ]
    have hcp5 := run_copyR w4.drew 28 59 3 4 cellL cellL_len (by decide) cellL_one m.cells (List.replicate n1 ((false, 0, 0, 0) : Bool × Int × Int × Int)) (b1) c1 o1 59 Try.underlying28 zero_cell.2 x14 (by rw [List.length_replicate, HN1.out]) (by have := (HF0.out _ hB4.drew).2.1; rwa [HN1.out] at this)
    rw [← HN1.out] at hcp5
    obtain ⟨w5, hr5, x15, hg5, hs5⟩ := hcp5
    have xo5 : RowAt w5 (bo) 48 #[.int .i64 m.old, .slice (some ⟨b1, 0, none⟩) n1 n1, .slice (some ⟨b2, 0, none⟩) n2 n2] := RowAt.grown (w := w4.drew) xo4 hg5 (by intro e; injection e; omega)
    have x25 : RecAt w5 (b2) 3 intL (List.replicate n2 (0 : Int)) := RowAt.grown (w := w4.drew) x24 hg5 (by intro e; injection e; omega)
    have hB5 : Below w0.heap.size w0 w5 := hB4.drew.grown hg5 hB4.drew.size (fun k e => by cases e; omega)
    refine held_ready 6 (some 27) (by kernel_rfl) rfl rfl rfl _ w5 (run_copyH (.tmp 22) (.tmp 26) 28 rfl _ _ _ rfl rfl hr5) ⟨xo5, hB5⟩ ?_
    simp only [Act.put, List.setIfInBounds_toArray, List.set_cons_zero, List.set_cons_succ]
    refine wpAnyH_done (by kernel_rfl) ?_ _
    refine NoPanic.normal ?_
    have H5 := hideT' (And.intro xo5 (And.intro x15 (And.intro x25 hB5)))
    clear xo4 x14 x24 hB4 hSc hr5 xo5 x15 x25 hB5 hg5 H4
    go_wp2_with fail
    obtain ⟨xo5, x15, x25, hB5⟩ := H5.out
    have hSc : RowAt w5.drew (bo) 48 #[.int .i64 m.old, .slice (some ⟨b1, 0, none⟩) n1 n1, .slice (some ⟨b2, 0, none⟩) n2 n2] ∧ Below w0.heap.size w0 w5.drew := ⟨xo5, hB5.drew⟩
    refine held_begin (fun w' => RowAt w' (bo) 48 #[.int .i64 m.old, .slice (some ⟨b1, 0, none⟩) n1 n1, .slice (some ⟨b2, 0, none⟩) n2 n2] ∧ Below w0.heap.size w0 w') (by kernel_rfl) ?_
    refine held_val 0 (some 28) rfl rfl (by kernel_rfl) (by kernel_rfl) (by kernel_rfl) noPanic_put rfl (.pointer (some ⟨bo, 2, none⟩)) (fun _ => by go_simp) hSc ?_
    simp only [Act.put, List.setIfInBounds_toArray, List.set_cons_zero, List.set_cons_succ]
    refine held_valS 1 (some 29) rfl rfl (by kernel_rfl) (by kernel_rfl) (by kernel_rfl) noPanic_put rfl (.slice (some ⟨b2, 0, none⟩) n2 n2) (fun w' h => run_cell1 (.tmp 28) 23 rfl ⟨bo, 2, none⟩ rfl _ Try.underlying23 rfl (by rw [cell_of_row w' _ _ _ _ _ h.1]; rfl)) hSc ?_
    simp only [Act.put, List.setIfInBounds_toArray, List.set_cons_zero, List.set_cons_succ]
    refine held_val 2 (some 30) rfl rfl (by kernel_rfl) (by kernel_rfl) (by kernel_rfl) noPanic_put rfl (.pointer (some ⟨hb, 0, none⟩)) (fun _ => by go_simp) hSc ?_
    simp only [Act.put, List.setIfInBounds_toArray, List.set_cons_zero, List.set_cons_succ]
    refine held_val 3 (some 31) rfl rfl (by kernel_rfl) (by kernel_rfl) (by kernel_rfl) noPanic_put rfl (.pointer (some ⟨hb, 0, none⟩)) (fun _ => by go_simp) hSc ?_
    simp only [Act.put, List.setIfInBounds_toArray, List.set_cons_zero, List.set_cons_succ]
    refine held_val 4 (some 32) rfl rfl (by kernel_rfl) (by kernel_rfl) (by kernel_rfl) noPanic_put rfl (.pointer (some ⟨hb, 2, none⟩)) (fun _ => by go_simp) hSc ?_
    simp only [Act.put, List.setIfInBounds_toArray, List.set_cons_zero, List.set_cons_succ]
    refine held_valS 5 (some 33) rfl rfl (by kernel_rfl) (by kernel_rfl) (by kernel_rfl) noPanic_put rfl (.slice o2 n2 c2) (fun w' h => run_cell1 (.tmp 32) 23 rfl ⟨hb, 2, none⟩ rfl _ Try.underlying23 rfl (HF0.out w' h.2).1.2.2) hSc ?_
    simp only [Act.put, List.setIfInBounds_toArray, List.set_cons_zero, List.set_cons_succ]
    have hcp6 := run_copyR w5.drew 23 3 3 1 intL intL_len (by decide) intL_one m.roots (List.replicate n2 (0 : Int)) (b2) c2 o2 3 Try.underlying23 size1_int x25 (by rw [List.length_replicate, HN2.out]) (by have := (HF0.out _ hB5.drew).2.2; rwa [HN2.out] at this)
    rw [← HN2.out] at hcp6
    obtain ⟨w6, hr6, x26, hg6, hs6⟩ := hcp6
    have xo6 : RowAt w6 (bo) 48 #[.int .i64 m.old, .slice (some ⟨b1, 0, none⟩) n1 n1, .slice (some ⟨b2, 0, none⟩) n2 n2] := RowAt.grown (w := w5.drew) xo5 hg6 (by intro e; injection e; omega)
    have x16 : RecAt w6 (b1) 59 cellL m.cells := RowAt.grown (w := w5.drew) x15 hg6 (by intro e; injection e; omega)
    have hB6 : Below w0.heap.size w0 w6 := hB5.drew.grown hg6 hB5.drew.size (fun k e => by cases e; omega)
    refine held_ready 6 (some 34) (by kernel_rfl) rfl rfl rfl _ w6 (run_copyH (.tmp 29) (.tmp 33) 23 rfl _ _ _ rfl rfl hr6) ⟨xo6, hB6⟩ ?_
    simp only [Act.put, List.setIfInBounds_toArray, List.set_cons_zero, List.set_cons_succ]
    refine wpAnyH_done (by kernel_rfl) ?_ _
    refine NoPanic.normal ?_
    have hX6 : RowAt w6 w.heap.size 48 #[.int .i64 0, .slice none 0 0, .slice none 0 0] := HX0.out.1.below hB6 (by omega)
    have q0 : w6.cell? ⟨bo, 0, none⟩ = some (.int .i64 m.old) := by rw [cell_of_row w6 _ _ _ _ _ xo6]; rfl
    have q1 : w6.cell? ⟨bo, 1, none⟩ = some (.slice (some ⟨b1, 0, none⟩) n1 n1) := by rw [cell_of_row w6 _ _ _ _ _ xo6]; rfl
    have q2 : w6.cell? ⟨bo, 2, none⟩ = some (.slice (some ⟨b2, 0, none⟩) n2 n2) := by rw [cell_of_row w6 _ _ _ _ _ xo6]; rfl
    have H6 := hideT' (And.intro x16 (And.intro x26 hB6))
    clear xo5 x15 x25 hB5 hSc hr6 xo6 x16 x26 hB6 hg6 H5
    go_wp2_with (refine store_3 rfl 48 _ _ rfl rfl zero_hp.2 (w.heap.size) #[.int .i64 m.old, .slice (some ⟨b1, 0, none⟩) n1 n1, .slice (some ⟨b2, 0, none⟩) n2 n2] rfl (hp_one _ _ _ _ _ _ _) rfl rfl _ rfl hX6 ?_; intro w7 hR7 hg7 hs7)
    obtain ⟨x16, x26, hB6⟩ := H6.out
    refine bodyPost_ret (v := .agg #[.int .i64 m.old, .slice (some ⟨b1, 0, none⟩) n1 n1, .slice (some ⟨b2, 0, none⟩) n2 n2]) (results_cell_row Try.results70 _ _ w.heap.size 48 _ (0, 0) _ rfl hR7 Try.underlying48 rfl zero_hp.2) rfl ⟨⟨_, _, rfl, ?_, ?_⟩, (HX0.out.2.trans (hB6.mono (by omega))).grown hg7 (by have := hB6.size; omega) (fun k e => by cases e; exact Nat.le_refl _)⟩
    · have h : RecAt w7 (b1) 59 cellL m.cells := RowAt.grown x16 hg7 (by intro e; injection e; omega)
      have := own_of_row (B := w.heap.size) (n := m.cells.length) (cap := m.cells.length) (s := 4) (E := []) (by rw [List.append_nil]; exact h) (rec_len cellL 4 cellL_len _) (by simp) (Nat.le_refl _) (by rw [← HN1.out]; unfold maxLen; omega) (by omega)
      rw [OwnR]
      rw [← HN1.out] at this ⊢
      exact this
    · have h : RecAt w7 (b2) 3 intL m.roots := RowAt.grown x26 hg7 (by intro e; injection e; omega)
      have := own_of_row (B := w.heap.size) (n := m.roots.length) (cap := m.roots.length) (s := 1) (E := []) (by rw [List.append_nil]; exact h) (rec_len intL 1 intL_len _) (by simp) (Nat.le_refl _) (by rw [← HN2.out]; unfold maxLen; omega) (by omega)
      rw [OwnR]
      rw [← HN2.out] at this ⊢
      exact this
  have hS : (World.cell? w0.drew ⟨hb, 0, none⟩ = some (.int .i64 m.old) ∧ World.cell? w0.drew ⟨hb, 1, none⟩ = some (.slice o1 n1 c1) ∧ World.cell? w0.drew ⟨hb, 2, none⟩ = some (.slice o2 n2 c2)) := HSB.out _ (Below.refl _ _).drew
  refine held_begin (fun w' => (World.cell? w' ⟨hb, 0, none⟩ = some (.int .i64 m.old) ∧ World.cell? w' ⟨hb, 1, none⟩ = some (.slice o1 n1 c1) ∧ World.cell? w' ⟨hb, 2, none⟩ = some (.slice o2 n2 c2))) (by kernel_rfl) ?_
  refine held_val 0 (some 4) rfl rfl (by kernel_rfl) (by kernel_rfl) (by kernel_rfl) noPanic_put rfl (.pointer (some ⟨hb, 0, none⟩)) (fun _ => by go_simp) hS ?_
  simp only [Act.put, List.setIfInBounds_toArray, List.set_cons_zero, List.set_cons_succ]
  refine held_val 1 (some 5) rfl rfl (by kernel_rfl) (by kernel_rfl) (by kernel_rfl) noPanic_put rfl (.pointer (some ⟨hb, 0, none⟩)) (fun _ => by go_simp) hS ?_
  simp only [Act.put, List.setIfInBounds_toArray, List.set_cons_zero, List.set_cons_succ]
  refine held_val 2 (some 6) rfl rfl (by kernel_rfl) (by kernel_rfl) (by kernel_rfl) noPanic_put rfl (.pointer (some ⟨hb, 0, none⟩)) (fun _ => by go_simp) hS ?_
  simp only [Act.put, List.setIfInBounds_toArray, List.set_cons_zero, List.set_cons_succ]
  refine held_valS 3 (some 7) rfl rfl (by kernel_rfl) (by kernel_rfl) (by kernel_rfl) noPanic_put rfl (.int .i64 m.old) (fun w' h => run_cell1 (.tmp 6) 3 rfl ⟨hb, 0, none⟩ rfl _ Try.underlying3 rfl h.1) hS ?_
  simp only [Act.put, List.setIfInBounds_toArray, List.set_cons_zero, List.set_cons_succ]
  refine held_val 4 (some 8) rfl rfl (by kernel_rfl) (by kernel_rfl) (by kernel_rfl) noPanic_put rfl (.pointer (some ⟨hb, 0, none⟩)) (fun _ => by go_simp) hS ?_
  simp only [Act.put, List.setIfInBounds_toArray, List.set_cons_zero, List.set_cons_succ]
  refine held_val 5 (some 9) rfl rfl (by kernel_rfl) (by kernel_rfl) (by kernel_rfl) noPanic_put rfl (.pointer (some ⟨hb, 0, none⟩)) (fun _ => by go_simp) hS ?_
  simp only [Act.put, List.setIfInBounds_toArray, List.set_cons_zero, List.set_cons_succ]
  refine held_val 6 (some 10) rfl rfl (by kernel_rfl) (by kernel_rfl) (by kernel_rfl) noPanic_put rfl (.pointer (some ⟨hb, 1, none⟩)) (fun _ => by go_simp) hS ?_
  simp only [Act.put, List.setIfInBounds_toArray, List.set_cons_zero, List.set_cons_succ]
  refine held_valS 7 (some 11) rfl rfl (by kernel_rfl) (by kernel_rfl) (by kernel_rfl) noPanic_put rfl (.slice o1 n1 c1) (fun w' h => run_cell1 (.tmp 10) 28 rfl ⟨hb, 1, none⟩ rfl _ Try.underlying28 rfl h.2.1) hS ?_
  simp only [Act.put, List.setIfInBounds_toArray, List.set_cons_zero, List.set_cons_succ]
  refine held_val 8 (some 12) rfl rfl (by kernel_rfl) (by kernel_rfl) (by kernel_rfl) noPanic_put rfl (.int .i64 (n1 : Int)) (fun _ => by go_simp) hS ?_
  simp only [Act.put, List.setIfInBounds_toArray, List.set_cons_zero, List.set_cons_succ]
  refine held_val 10 (some 14) rfl rfl (by kernel_rfl) (by kernel_rfl) (by kernel_rfl) noPanic_put rfl (.pointer (some ⟨hb, 0, none⟩)) (fun _ => by go_simp) hS ?_
  simp only [Act.put, List.setIfInBounds_toArray, List.set_cons_zero, List.set_cons_succ]
  refine held_val 11 (some 15) rfl rfl (by kernel_rfl) (by kernel_rfl) (by kernel_rfl) noPanic_put rfl (.pointer (some ⟨hb, 0, none⟩)) (fun _ => by go_simp) hS ?_
  simp only [Act.put, List.setIfInBounds_toArray, List.set_cons_zero, List.set_cons_succ]
  refine held_val 12 (some 16) rfl rfl (by kernel_rfl) (by kernel_rfl) (by kernel_rfl) noPanic_put rfl (.pointer (some ⟨hb, 2, none⟩)) (fun _ => by go_simp) hS ?_
  simp only [Act.put, List.setIfInBounds_toArray, List.set_cons_zero, List.set_cons_succ]
  refine held_valS 13 (some 17) rfl rfl (by kernel_rfl) (by kernel_rfl) (by kernel_rfl) noPanic_put rfl (.slice o2 n2 c2) (fun w' h => run_cell1 (.tmp 16) 23 rfl ⟨hb, 2, none⟩ rfl _ Try.underlying23 rfl h.2.2) hS ?_
  simp only [Act.put, List.setIfInBounds_toArray, List.set_cons_zero, List.set_cons_succ]
  refine held_val 14 (some 18) rfl rfl (by kernel_rfl) (by kernel_rfl) (by kernel_rfl) noPanic_put rfl (.int .i64 (n2 : Int)) (fun _ => by go_simp) hS ?_
  simp only [Act.put, List.setIfInBounds_toArray, List.set_cons_zero, List.set_cons_succ]
  have hz0 : w0.drew.heap.size = w0.heap.size + 0 := rfl
  have hBw0 : Below w0.heap.size w0 w0.drew := (Below.refl _ _).drew
  refine wpAnyH_ready (rs := [9, 15, 17]) (by kernel_rfl) (by simp) ?_
  refine ready_valH 9 (some 13) rfl rfl rfl (.slice (some ⟨w0.heap.size, 0, none⟩) n1 n1) (w0.drew.alloc (.cells ((List.replicate n1 ((false, 0, 0, 0) : Bool × Int × Int × Int)).flatMap cellL).toArray 59)) (run_makeH 28 (.tmp 12) rfl _ _ rfl (HMK1.out _)) (HSB.out _ (hBw0.alloc (by rw [hz0]; omega) _)) ?_ ?_
  · simp only [Act.put, List.setIfInBounds_toArray, List.set_cons_zero, List.set_cons_succ]
    obtain ⟨W1, hW1⟩ : ∃ W, W = w0.drew.alloc (.cells ((List.replicate n1 ((false, 0, 0, 0) : Bool × Int × Int × Int)).flatMap cellL).toArray 59) := ⟨_, rfl⟩
    have hz1 : W1.heap.size = w0.heap.size + 1 := by rw [hW1, World.size_alloc, hz0]
    have hBw1 : Below w0.heap.size w0 W1 := by rw [hW1]; exact hBw0.alloc (by rw [hz0]; omega) _
    have hS1 : (World.cell? W1 ⟨hb, 0, none⟩ = some (.int .i64 m.old) ∧ World.cell? W1 ⟨hb, 1, none⟩ = some (.slice o1 n1 c1) ∧ World.cell? W1 ⟨hb, 2, none⟩ = some (.slice o2 n2 c2)) := HSB.out _ hBw1
    have x1 : RecAt W1 (w0.heap.size) 59 cellL (List.replicate n1 ((false, 0, 0, 0) : Bool × Int × Int × Int)) := by
      have h := RowAt.new w0.drew 59 ((List.replicate n1 ((false, 0, 0, 0) : Bool × Int × Int × Int)).flatMap cellL).toArray
      rw [hz0] at h
      rw [hW1]; exact h
    rw [← hW1]
    clear hW1
    refine wpAnyH_ready (rs := [15, 17]) (by kernel_rfl) (by simp) ?_
    refine ready_valH 15 (some 19) rfl rfl rfl (.slice (some ⟨w0.heap.size + 1, 0, none⟩) n2 n2) (W1.alloc (.cells ((List.replicate n2 (0 : Int)).flatMap intL).toArray 3)) (by rw [← hz1]; exact run_makeH 23 (.tmp 18) rfl _ _ rfl (HMK2.out _)) (HSB.out _ (hBw1.alloc (by rw [hz1]; omega) _)) ?_ ?_
    · simp only [Act.put, List.setIfInBounds_toArray, List.set_cons_zero, List.set_cons_succ]
      obtain ⟨W2, hW2⟩ : ∃ W, W = W1.alloc (.cells ((List.replicate n2 (0 : Int)).flatMap intL).toArray 3) := ⟨_, rfl⟩
      have hz2 : W2.heap.size = w0.heap.size + 2 := by rw [hW2, World.size_alloc, hz1]
      have hBw2 : Below w0.heap.size w0 W2 := by rw [hW2]; exact hBw1.alloc (by rw [hz1]; omega) _
      have hS2 : (World.cell? W2 ⟨hb, 0, none⟩ = some (.int .i64 m.old) ∧ World.cell? W2 ⟨hb, 1, none⟩ = some (.slice o1 n1 c1) ∧ World.cell? W2 ⟨hb, 2, none⟩ = some (.slice o2 n2 c2)) := HSB.out _ hBw2
      have x1 : RecAt W2 (w0.heap.size) 59 cellL (List.replicate n1 ((false, 0, 0, 0) : Bool × Int × Int × Int)) := by rw [hW2]; exact RowAt.old x1 _
      have x2 : RecAt W2 (w0.heap.size + 1) 3 intL (List.replicate n2 (0 : Int)) := by
        have h := RowAt.new W1 3 ((List.replicate n2 (0 : Int)).flatMap intL).toArray
        rw [hz1] at h
        rw [hW2]; exact h
      rw [← hW2]
      clear hW2
      refine held_val 16 (some 20) rfl rfl (by kernel_rfl) (by kernel_rfl) (by kernel_rfl) noPanic_put rfl (.agg #[.int .i64 m.old, .slice (some ⟨w0.heap.size, 0, none⟩) n1 n1, .slice (some ⟨w0.heap.size + 1, 0, none⟩) n2 n2]) (fun _ => by go_simp) hS2 ?_
      simp only [Act.put, List.setIfInBounds_toArray, List.set_cons_zero, List.set_cons_succ]
      refine wpAnyH_ready (rs := [17]) (by kernel_rfl) (by simp) ?_
      refine ready_valH 17 (some 3) rfl rfl rfl (.pointer (some ⟨w0.heap.size + 2, 0, none⟩)) (W2.alloc (.cells #[.int .i64 0, .slice none 0 0, .slice none 0 0] 48)) (by rw [← hz2]; exact run_allocH rfl hz) (HSB.out _ (hBw2.alloc (by rw [hz2]; omega) _)) ?_ AllReadyH.nil
      · simp only [Act.put, List.setIfInBounds_toArray, List.set_cons_zero, List.set_cons_succ]
        obtain ⟨W3, hW3⟩ : ∃ W, W = W2.alloc (.cells #[.int .i64 0, .slice none 0 0, .slice none 0 0] 48) := ⟨_, rfl⟩
        have hz3 : W3.heap.size = w0.heap.size + 3 := by rw [hW3, World.size_alloc, hz2]
        have hBw3 : Below w0.heap.size w0 W3 := by rw [hW3]; exact hBw2.alloc (by rw [hz2]; omega) _
        have hS3 : (World.cell? W3 ⟨hb, 0, none⟩ = some (.int .i64 m.old) ∧ World.cell? W3 ⟨hb, 1, none⟩ = some (.slice o1 n1 c1) ∧ World.cell? W3 ⟨hb, 2, none⟩ = some (.slice o2 n2 c2)) := HSB.out _ hBw3
        have x1 : RecAt W3 (w0.heap.size) 59 cellL (List.replicate n1 ((false, 0, 0, 0) : Bool × Int × Int × Int)) := by rw [hW3]; exact RowAt.old x1 _
        have x2 : RecAt W3 (w0.heap.size + 1) 3 intL (List.replicate n2 (0 : Int)) := by rw [hW3]; exact RowAt.old x2 _
        have xo : RowAt W3 (w0.heap.size + 2) 48 #[.int .i64 0, .slice none 0 0, .slice none 0 0] := by
          have h := RowAt.new W2 48 #[.int .i64 0, .slice none 0 0, .slice none 0 0]
          rw [hz2] at h
          rw [hW3]; exact h
        rw [← hW3]
        clear hW3
        refine held_step 18 (by kernel_rfl) rfl rfl fun K18 hK18 => ?_
        refine wp_store_row 48 _ _ rfl (w0.heap.size + 2) #[.int .i64 m.old, .slice (some ⟨w0.heap.size, 0, none⟩) n1 n1, .slice (some ⟨w0.heap.size + 1, 0, none⟩) n2 n2] rfl rfl 48 _ xo zero_hp.2 rfl (hp_one _ _ _ _ _ _ _) ?_
        obtain ⟨w4, hw4⟩ : ∃ w4, w4 = W3.setRow (w0.heap.size + 2) #[.int .i64 m.old, .slice (some ⟨w0.heap.size, 0, none⟩) n1 n1, .slice (some ⟨w0.heap.size + 1, 0, none⟩) n2 n2] := ⟨_, rfl⟩
        have hg4 : W3.grownBy w4 (some (w0.heap.size + 2)) := by rw [hw4]; exact ⟨rfl, rfl, rfl, by simp, fun k _ hne => setRow_other W3 (w0.heap.size + 2) k _ (by intro e; exact hne (by rw [e]))⟩
        have xo4 : RowAt w4 (w0.heap.size + 2) 48 #[.int .i64 m.old, .slice (some ⟨w0.heap.size, 0, none⟩) n1 n1, .slice (some ⟨w0.heap.size + 1, 0, none⟩) n2 n2] := by rw [hw4]; exact setRow_heap _ _ _ _ _ _ xo
        rw [← hw4]
        clear hw4
        have x14 : RecAt w4 (w0.heap.size) 59 cellL (List.replicate n1 ((false, 0, 0, 0) : Bool × Int × Int × Int)) := RowAt.grown x1 hg4 (by intro e; injection e; omega)
        have x24 : RecAt w4 (w0.heap.size + 1) 3 intL (List.replicate n2 (0 : Int)) := RowAt.grown x2 hg4 (by intro e; injection e; omega)
        have hB4 : Below w0.heap.size w0 w4 := hBw3.grown hg4 (by rw [hz3]; omega) (fun k e => by cases e; omega)
        refine hK18.out _ _ (HSB.out _ hB4) ?_
        refine wpAnyH_done (by kernel_rfl) ?_ _
        refine NoPanic.normal ?_
        exact HKK.out (w0.heap.size) (w0.heap.size + 1) (w0.heap.size + 2) w4 (by omega) (by omega) (by omega) (by omega) (by omega) (by omega) xo4 x14 x24 hB4
    refine ready_valH 17 (some 3) rfl rfl rfl (.pointer (some ⟨w0.heap.size + 1, 0, none⟩)) (W1.alloc (.cells #[.int .i64 0, .slice none 0 0, .slice none 0 0] 48)) (by rw [← hz1]; exact run_allocH rfl hz) (HSB.out _ (hBw1.alloc (by rw [hz1]; omega) _)) ?_ AllReadyH.nil
    · simp only [Act.put, List.setIfInBounds_toArray, List.set_cons_zero, List.set_cons_succ]
      obtain ⟨W2, hW2⟩ : ∃ W, W = W1.alloc (.cells #[.int .i64 0, .slice none 0 0, .slice none 0 0] 48) := ⟨_, rfl⟩
      have hz2 : W2.heap.size = w0.heap.size + 2 := by rw [hW2, World.size_alloc, hz1]
      have hBw2 : Below w0.heap.size w0 W2 := by rw [hW2]; exact hBw1.alloc (by rw [hz1]; omega) _
      have hS2 : (World.cell? W2 ⟨hb, 0, none⟩ = some (.int .i64 m.old) ∧ World.cell? W2 ⟨hb, 1, none⟩ = some (.slice o1 n1 c1) ∧ World.cell? W2 ⟨hb, 2, none⟩ = some (.slice o2 n2 c2)) := HSB.out _ hBw2
      have x1 : RecAt W2 (w0.heap.size) 59 cellL (List.replicate n1 ((false, 0, 0, 0) : Bool × Int × Int × Int)) := by rw [hW2]; exact RowAt.old x1 _
      have xo : RowAt W2 (w0.heap.size + 1) 48 #[.int .i64 0, .slice none 0 0, .slice none 0 0] := by
        have h := RowAt.new W1 48 #[.int .i64 0, .slice none 0 0, .slice none 0 0]
        rw [hz1] at h
        rw [hW2]; exact h
      rw [← hW2]
      clear hW2
      refine wpAnyH_ready (rs := [15]) (by kernel_rfl) (by simp) ?_
      refine ready_valH 15 (some 19) rfl rfl rfl (.slice (some ⟨w0.heap.size + 2, 0, none⟩) n2 n2) (W2.alloc (.cells ((List.replicate n2 (0 : Int)).flatMap intL).toArray 3)) (by rw [← hz2]; exact run_makeH 23 (.tmp 18) rfl _ _ rfl (HMK2.out _)) (HSB.out _ (hBw2.alloc (by rw [hz2]; omega) _)) ?_ AllReadyH.nil
      · simp only [Act.put, List.setIfInBounds_toArray, List.set_cons_zero, List.set_cons_succ]
        obtain ⟨W3, hW3⟩ : ∃ W, W = W2.alloc (.cells ((List.replicate n2 (0 : Int)).flatMap intL).toArray 3) := ⟨_, rfl⟩
        have hz3 : W3.heap.size = w0.heap.size + 3 := by rw [hW3, World.size_alloc, hz2]
        have hBw3 : Below w0.heap.size w0 W3 := by rw [hW3]; exact hBw2.alloc (by rw [hz2]; omega) _
        have hS3 : (World.cell? W3 ⟨hb, 0, none⟩ = some (.int .i64 m.old) ∧ World.cell? W3 ⟨hb, 1, none⟩ = some (.slice o1 n1 c1) ∧ World.cell? W3 ⟨hb, 2, none⟩ = some (.slice o2 n2 c2)) := HSB.out _ hBw3
        have x1 : RecAt W3 (w0.heap.size) 59 cellL (List.replicate n1 ((false, 0, 0, 0) : Bool × Int × Int × Int)) := by rw [hW3]; exact RowAt.old x1 _
        have xo : RowAt W3 (w0.heap.size + 1) 48 #[.int .i64 0, .slice none 0 0, .slice none 0 0] := by rw [hW3]; exact RowAt.old xo _
        have x2 : RecAt W3 (w0.heap.size + 2) 3 intL (List.replicate n2 (0 : Int)) := by
          have h := RowAt.new W2 3 ((List.replicate n2 (0 : Int)).flatMap intL).toArray
          rw [hz2] at h
          rw [hW3]; exact h
        rw [← hW3]
        clear hW3
        refine held_val 16 (some 20) rfl rfl (by kernel_rfl) (by kernel_rfl) (by kernel_rfl) noPanic_put rfl (.agg #[.int .i64 m.old, .slice (some ⟨w0.heap.size, 0, none⟩) n1 n1, .slice (some ⟨w0.heap.size + 2, 0, none⟩) n2 n2]) (fun _ => by go_simp) hS3 ?_
        simp only [Act.put, List.setIfInBounds_toArray, List.set_cons_zero, List.set_cons_succ]
        refine held_step 18 (by kernel_rfl) rfl rfl fun K18 hK18 => ?_
        refine wp_store_row 48 _ _ rfl (w0.heap.size + 1) #[.int .i64 m.old, .slice (some ⟨w0.heap.size, 0, none⟩) n1 n1, .slice (some ⟨w0.heap.size + 2, 0, none⟩) n2 n2] rfl rfl 48 _ xo zero_hp.2 rfl (hp_one _ _ _ _ _ _ _) ?_
        obtain ⟨w4, hw4⟩ : ∃ w4, w4 = W3.setRow (w0.heap.size + 1) #[.int .i64 m.old, .slice (some ⟨w0.heap.size, 0, none⟩) n1 n1, .slice (some ⟨w0.heap.size + 2, 0, none⟩) n2 n2] := ⟨_, rfl⟩
        have hg4 : W3.grownBy w4 (some (w0.heap.size + 1)) := by rw [hw4]; exact ⟨rfl, rfl, rfl, by simp, fun k _ hne => setRow_other W3 (w0.heap.size + 1) k _ (by intro e; exact hne (by rw [e]))⟩
        have xo4 : RowAt w4 (w0.heap.size + 1) 48 #[.int .i64 m.old, .slice (some ⟨w0.heap.size, 0, none⟩) n1 n1, .slice (some ⟨w0.heap.size + 2, 0, none⟩) n2 n2] := by rw [hw4]; exact setRow_heap _ _ _ _ _ _ xo
        rw [← hw4]
        clear hw4
        have x14 : RecAt w4 (w0.heap.size) 59 cellL (List.replicate n1 ((false, 0, 0, 0) : Bool × Int × Int × Int)) := RowAt.grown x1 hg4 (by intro e; injection e; omega)
        have x24 : RecAt w4 (w0.heap.size + 2) 3 intL (List.replicate n2 (0 : Int)) := RowAt.grown x2 hg4 (by intro e; injection e; omega)
        have hB4 : Below w0.heap.size w0 w4 := hBw3.grown hg4 (by rw [hz3]; omega) (fun k e => by cases e; omega)
        refine hK18.out _ _ (HSB.out _ hB4) ?_
        refine wpAnyH_done (by kernel_rfl) ?_ _
        refine NoPanic.normal ?_
        exact HKK.out (w0.heap.size) (w0.heap.size + 2) (w0.heap.size + 1) w4 (by omega) (by omega) (by omega) (by omega) (by omega) (by omega) xo4 x14 x24 hB4
  refine ready_valH 15 (some 19) rfl rfl rfl (.slice (some ⟨w0.heap.size, 0, none⟩) n2 n2) (w0.drew.alloc (.cells ((List.replicate n2 (0 : Int)).flatMap intL).toArray 3)) (run_makeH 23 (.tmp 18) rfl _ _ rfl (HMK2.out _)) (HSB.out _ (hBw0.alloc (by rw [hz0]; omega) _)) ?_ ?_
  · simp only [Act.put, List.setIfInBounds_toArray, List.set_cons_zero, List.set_cons_succ]
    obtain ⟨W1, hW1⟩ : ∃ W, W = w0.drew.alloc (.cells ((List.replicate n2 (0 : Int)).flatMap intL).toArray 3) := ⟨_, rfl⟩
    have hz1 : W1.heap.size = w0.heap.size + 1 := by rw [hW1, World.size_alloc, hz0]
    have hBw1 : Below w0.heap.size w0 W1 := by rw [hW1]; exact hBw0.alloc (by rw [hz0]; omega) _
    have hS1 : (World.cell? W1 ⟨hb, 0, none⟩ = some (.int .i64 m.old) ∧ World.cell? W1 ⟨hb, 1, none⟩ = some (.slice o1 n1 c1) ∧ World.cell? W1 ⟨hb, 2, none⟩ = some (.slice o2 n2 c2)) := HSB.out _ hBw1
    have x2 : RecAt W1 (w0.heap.size) 3 intL (List.replicate n2 (0 : Int)) := by
      have h := RowAt.new w0.drew 3 ((List.replicate n2 (0 : Int)).flatMap intL).toArray
      rw [hz0] at h
      rw [hW1]; exact h
    rw [← hW1]
    clear hW1
    refine wpAnyH_ready (rs := [9, 17]) (by kernel_rfl) (by simp) ?_
    refine ready_valH 9 (some 13) rfl rfl rfl (.slice (some ⟨w0.heap.size + 1, 0, none⟩) n1 n1) (W1.alloc (.cells ((List.replicate n1 ((false, 0, 0, 0) : Bool × Int × Int × Int)).flatMap cellL).toArray 59)) (by rw [← hz1]; exact run_makeH 28 (.tmp 12) rfl _ _ rfl (HMK1.out _)) (HSB.out _ (hBw1.alloc (by rw [hz1]; omega) _)) ?_ ?_
    · simp only [Act.put, List.setIfInBounds_toArray, List.set_cons_zero, List.set_cons_succ]
      obtain ⟨W2, hW2⟩ : ∃ W, W = W1.alloc (.cells ((List.replicate n1 ((false, 0, 0, 0) : Bool × Int × Int × Int)).flatMap cellL).toArray 59) := ⟨_, rfl⟩
      have hz2 : W2.heap.size = w0.heap.size + 2 := by rw [hW2, World.size_alloc, hz1]
      have hBw2 : Below w0.heap.size w0 W2 := by rw [hW2]; exact hBw1.alloc (by rw [hz1]; omega) _
      have hS2 : (World.cell? W2 ⟨hb, 0, none⟩ = some (.int .i64 m.old) ∧ World.cell? W2 ⟨hb, 1, none⟩ = some (.slice o1 n1 c1) ∧ World.cell? W2 ⟨hb, 2, none⟩ = some (.slice o2 n2 c2)) := HSB.out _ hBw2
      have x2 : RecAt W2 (w0.heap.size) 3 intL (List.replicate n2 (0 : Int)) := by rw [hW2]; exact RowAt.old x2 _
      have x1 : RecAt W2 (w0.heap.size + 1) 59 cellL (List.replicate n1 ((false, 0, 0, 0) : Bool × Int × Int × Int)) := by
        have h := RowAt.new W1 59 ((List.replicate n1 ((false, 0, 0, 0) : Bool × Int × Int × Int)).flatMap cellL).toArray
        rw [hz1] at h
        rw [hW2]; exact h
      rw [← hW2]
      clear hW2
      refine held_val 16 (some 20) rfl rfl (by kernel_rfl) (by kernel_rfl) (by kernel_rfl) noPanic_put rfl (.agg #[.int .i64 m.old, .slice (some ⟨w0.heap.size + 1, 0, none⟩) n1 n1, .slice (some ⟨w0.heap.size, 0, none⟩) n2 n2]) (fun _ => by go_simp) hS2 ?_
      simp only [Act.put, List.setIfInBounds_toArray, List.set_cons_zero, List.set_cons_succ]
      refine wpAnyH_ready (rs := [17]) (by kernel_rfl) (by simp) ?_
      refine ready_valH 17 (some 3) rfl rfl rfl (.pointer (some ⟨w0.heap.size + 2, 0, none⟩)) (W2.alloc (.cells #[.int .i64 0, .slice none 0 0, .slice none 0 0] 48)) (by rw [← hz2]; exact run_allocH rfl hz) (HSB.out _ (hBw2.alloc (by rw [hz2]; omega) _)) ?_ AllReadyH.nil
      · simp only [Act.put, List.setIfInBounds_toArray, List.set_cons_zero, List.set_cons_succ]
        obtain ⟨W3, hW3⟩ : ∃ W, W = W2.alloc (.cells #[.int .i64 0, .slice none 0 0, .slice none 0 0] 48) := ⟨_, rfl⟩
        have hz3 : W3.heap.size = w0.heap.size + 3 := by rw [hW3, World.size_alloc, hz2]
        have hBw3 : Below w0.heap.size w0 W3 := by rw [hW3]; exact hBw2.alloc (by rw [hz2]; omega) _
        have hS3 : (World.cell? W3 ⟨hb, 0, none⟩ = some (.int .i64 m.old) ∧ World.cell? W3 ⟨hb, 1, none⟩ = some (.slice o1 n1 c1) ∧ World.cell? W3 ⟨hb, 2, none⟩ = some (.slice o2 n2 c2)) := HSB.out _ hBw3
        have x2 : RecAt W3 (w0.heap.size) 3 intL (List.replicate n2 (0 : Int)) := by rw [hW3]; exact RowAt.old x2 _
        have x1 : RecAt W3 (w0.heap.size + 1) 59 cellL (List.replicate n1 ((false, 0, 0, 0) : Bool × Int × Int × Int)) := by rw [hW3]; exact RowAt.old x1 _
        have xo : RowAt W3 (w0.heap.size + 2) 48 #[.int .i64 0, .slice none 0 0, .slice none 0 0] := by
          have h := RowAt.new W2 48 #[.int .i64 0, .slice none 0 0, .slice none 0 0]
          rw [hz2] at h
          rw [hW3]; exact h
        rw [← hW3]
        clear hW3
        refine held_step 18 (by kernel_rfl) rfl rfl fun K18 hK18 => ?_
        refine wp_store_row 48 _ _ rfl (w0.heap.size + 2) #[.int .i64 m.old, .slice (some ⟨w0.heap.size + 1, 0, none⟩) n1 n1, .slice (some ⟨w0.heap.size, 0, none⟩) n2 n2] rfl rfl 48 _ xo zero_hp.2 rfl (hp_one _ _ _ _ _ _ _) ?_
        obtain ⟨w4, hw4⟩ : ∃ w4, w4 = W3.setRow (w0.heap.size + 2) #[.int .i64 m.old, .slice (some ⟨w0.heap.size + 1, 0, none⟩) n1 n1, .slice (some ⟨w0.heap.size, 0, none⟩) n2 n2] := ⟨_, rfl⟩
        have hg4 : W3.grownBy w4 (some (w0.heap.size + 2)) := by rw [hw4]; exact ⟨rfl, rfl, rfl, by simp, fun k _ hne => setRow_other W3 (w0.heap.size + 2) k _ (by intro e; exact hne (by rw [e]))⟩
        have xo4 : RowAt w4 (w0.heap.size + 2) 48 #[.int .i64 m.old, .slice (some ⟨w0.heap.size + 1, 0, none⟩) n1 n1, .slice (some ⟨w0.heap.size, 0, none⟩) n2 n2] := by rw [hw4]; exact setRow_heap _ _ _ _ _ _ xo
        rw [← hw4]
        clear hw4
        have x14 : RecAt w4 (w0.heap.size + 1) 59 cellL (List.replicate n1 ((false, 0, 0, 0) : Bool × Int × Int × Int)) := RowAt.grown x1 hg4 (by intro e; injection e; omega)
        have x24 : RecAt w4 (w0.heap.size) 3 intL (List.replicate n2 (0 : Int)) := RowAt.grown x2 hg4 (by intro e; injection e; omega)
        have hB4 : Below w0.heap.size w0 w4 := hBw3.grown hg4 (by rw [hz3]; omega) (fun k e => by cases e; omega)
        refine hK18.out _ _ (HSB.out _ hB4) ?_
        refine wpAnyH_done (by kernel_rfl) ?_ _
        refine NoPanic.normal ?_
        exact HKK.out (w0.heap.size + 1) (w0.heap.size) (w0.heap.size + 2) w4 (by omega) (by omega) (by omega) (by omega) (by omega) (by omega) xo4 x14 x24 hB4
    refine ready_valH 17 (some 3) rfl rfl rfl (.pointer (some ⟨w0.heap.size + 1, 0, none⟩)) (W1.alloc (.cells #[.int .i64 0, .slice none 0 0, .slice none 0 0] 48)) (by rw [← hz1]; exact run_allocH rfl hz) (HSB.out _ (hBw1.alloc (by rw [hz1]; omega) _)) ?_ AllReadyH.nil
    · simp only [Act.put, List.setIfInBounds_toArray, List.set_cons_zero, List.set_cons_succ]
      obtain ⟨W2, hW2⟩ : ∃ W, W = W1.alloc (.cells #[.int .i64 0, .slice none 0 0, .slice none 0 0] 48) := ⟨_, rfl⟩
      have hz2 : W2.heap.size = w0.heap.size + 2 := by rw [hW2, World.size_alloc, hz1]
      have hBw2 : Below w0.heap.size w0 W2 := by rw [hW2]; exact hBw1.alloc (by rw [hz1]; omega) _
      have hS2 : (World.cell? W2 ⟨hb, 0, none⟩ = some (.int .i64 m.old) ∧ World.cell? W2 ⟨hb, 1, none⟩ = some (.slice o1 n1 c1) ∧ World.cell? W2 ⟨hb, 2, none⟩ = some (.slice o2 n2 c2)) := HSB.out _ hBw2
      have x2 : RecAt W2 (w0.heap.size) 3 intL (List.replicate n2 (0 : Int)) := by rw [hW2]; exact RowAt.old x2 _
      have xo : RowAt W2 (w0.heap.size + 1) 48 #[.int .i64 0, .slice none 0 0, .slice none 0 0] := by
        have h := RowAt.new W1 48 #[.int .i64 0, .slice none 0 0, .slice none 0 0]
        rw [hz1] at h
        rw [hW2]; exact h
      rw [← hW2]
      clear hW2
      refine wpAnyH_ready (rs := [9]) (by kernel_rfl) (by simp) ?_
      refine ready_valH 9 (some 13) rfl rfl rfl (.slice (some ⟨w0.heap.size + 2, 0, none⟩) n1 n1) (W2.alloc (.cells ((List.replicate n1 ((false, 0, 0, 0) : Bool × Int × Int × Int)).flatMap cellL).toArray 59)) (by rw [← hz2]; exact run_makeH 28 (.tmp 12) rfl _ _ rfl (HMK1.out _)) (HSB.out _ (hBw2.alloc (by rw [hz2]; omega) _)) ?_ AllReadyH.nil
      · simp only [Act.put, List.setIfInBounds_toArray, List.set_cons_zero, List.set_cons_succ]
        obtain ⟨W3, hW3⟩ : ∃ W, W = W2.alloc (.cells ((List.replicate n1 ((false, 0, 0, 0) : Bool × Int × Int × Int)).flatMap cellL).toArray 59) := ⟨_, rfl⟩
        have hz3 : W3.heap.size = w0.heap.size + 3 := by rw [hW3, World.size_alloc, hz2]
        have hBw3 : Below w0.heap.size w0 W3 := by rw [hW3]; exact hBw2.alloc (by rw [hz2]; omega) _
        have hS3 : (World.cell? W3 ⟨hb, 0, none⟩ = some (.int .i64 m.old) ∧ World.cell? W3 ⟨hb, 1, none⟩ = some (.slice o1 n1 c1) ∧ World.cell? W3 ⟨hb, 2, none⟩ = some (.slice o2 n2 c2)) := HSB.out _ hBw3
        have x2 : RecAt W3 (w0.heap.size) 3 intL (List.replicate n2 (0 : Int)) := by rw [hW3]; exact RowAt.old x2 _
        have xo : RowAt W3 (w0.heap.size + 1) 48 #[.int .i64 0, .slice none 0 0, .slice none 0 0] := by rw [hW3]; exact RowAt.old xo _
        have x1 : RecAt W3 (w0.heap.size + 2) 59 cellL (List.replicate n1 ((false, 0, 0, 0) : Bool × Int × Int × Int)) := by
          have h := RowAt.new W2 59 ((List.replicate n1 ((false, 0, 0, 0) : Bool × Int × Int × Int)).flatMap cellL).toArray
          rw [hz2] at h
          rw [hW3]; exact h
        rw [← hW3]
        clear hW3
        refine held_val 16 (some 20) rfl rfl (by kernel_rfl) (by kernel_rfl) (by kernel_rfl) noPanic_put rfl (.agg #[.int .i64 m.old, .slice (some ⟨w0.heap.size + 2, 0, none⟩) n1 n1, .slice (some ⟨w0.heap.size, 0, none⟩) n2 n2]) (fun _ => by go_simp) hS3 ?_
        simp only [Act.put, List.setIfInBounds_toArray, List.set_cons_zero, List.set_cons_succ]
        refine held_step 18 (by kernel_rfl) rfl rfl fun K18 hK18 => ?_
        refine wp_store_row 48 _ _ rfl (w0.heap.size + 1) #[.int .i64 m.old, .slice (some ⟨w0.heap.size + 2, 0, none⟩) n1 n1, .slice (some ⟨w0.heap.size, 0, none⟩) n2 n2] rfl rfl 48 _ xo zero_hp.2 rfl (hp_one _ _ _ _ _ _ _) ?_
        obtain ⟨w4, hw4⟩ : ∃ w4, w4 = W3.setRow (w0.heap.size + 1) #[.int .i64 m.old, .slice (some ⟨w0.heap.size + 2, 0, none⟩) n1 n1, .slice (some ⟨w0.heap.size, 0, none⟩) n2 n2] := ⟨_, rfl⟩
        have hg4 : W3.grownBy w4 (some (w0.heap.size + 1)) := by rw [hw4]; exact ⟨rfl, rfl, rfl, by simp, fun k _ hne => setRow_other W3 (w0.heap.size + 1) k _ (by intro e; exact hne (by rw [e]))⟩
        have xo4 : RowAt w4 (w0.heap.size + 1) 48 #[.int .i64 m.old, .slice (some ⟨w0.heap.size + 2, 0, none⟩) n1 n1, .slice (some ⟨w0.heap.size, 0, none⟩) n2 n2] := by rw [hw4]; exact setRow_heap _ _ _ _ _ _ xo
        rw [← hw4]
        clear hw4
        have x14 : RecAt w4 (w0.heap.size + 2) 59 cellL (List.replicate n1 ((false, 0, 0, 0) : Bool × Int × Int × Int)) := RowAt.grown x1 hg4 (by intro e; injection e; omega)
        have x24 : RecAt w4 (w0.heap.size) 3 intL (List.replicate n2 (0 : Int)) := RowAt.grown x2 hg4 (by intro e; injection e; omega)
        have hB4 : Below w0.heap.size w0 w4 := hBw3.grown hg4 (by rw [hz3]; omega) (fun k e => by cases e; omega)
        refine hK18.out _ _ (HSB.out _ hB4) ?_
        refine wpAnyH_done (by kernel_rfl) ?_ _
        refine NoPanic.normal ?_
        exact HKK.out (w0.heap.size + 2) (w0.heap.size) (w0.heap.size + 1) w4 (by omega) (by omega) (by omega) (by omega) (by omega) (by omega) xo4 x14 x24 hB4
  refine ready_valH 17 (some 3) rfl rfl rfl (.pointer (some ⟨w0.heap.size, 0, none⟩)) (w0.drew.alloc (.cells #[.int .i64 0, .slice none 0 0, .slice none 0 0] 48)) (run_allocH rfl hz) (HSB.out _ (hBw0.alloc (by rw [hz0]; omega) _)) ?_ AllReadyH.nil
  · simp only [Act.put, List.setIfInBounds_toArray, List.set_cons_zero, List.set_cons_succ]
    obtain ⟨W1, hW1⟩ : ∃ W, W = w0.drew.alloc (.cells #[.int .i64 0, .slice none 0 0, .slice none 0 0] 48) := ⟨_, rfl⟩
    have hz1 : W1.heap.size = w0.heap.size + 1 := by rw [hW1, World.size_alloc, hz0]
    have hBw1 : Below w0.heap.size w0 W1 := by rw [hW1]; exact hBw0.alloc (by rw [hz0]; omega) _
    have hS1 : (World.cell? W1 ⟨hb, 0, none⟩ = some (.int .i64 m.old) ∧ World.cell? W1 ⟨hb, 1, none⟩ = some (.slice o1 n1 c1) ∧ World.cell? W1 ⟨hb, 2, none⟩ = some (.slice o2 n2 c2)) := HSB.out _ hBw1
    have xo : RowAt W1 (w0.heap.size) 48 #[.int .i64 0, .slice none 0 0, .slice none 0 0] := by
      have h := RowAt.new w0.drew 48 #[.int .i64 0, .slice none 0 0, .slice none 0 0]
      rw [hz0] at h
      rw [hW1]; exact h
    rw [← hW1]
    clear hW1
    refine wpAnyH_ready (rs := [9, 15]) (by kernel_rfl) (by simp) ?_
    refine ready_valH 9 (some 13) rfl rfl rfl (.slice (some ⟨w0.heap.size + 1, 0, none⟩) n1 n1) (W1.alloc (.cells ((List.replicate n1 ((false, 0, 0, 0) : Bool × Int × Int × Int)).flatMap cellL).toArray 59)) (by rw [← hz1]; exact run_makeH 28 (.tmp 12) rfl _ _ rfl (HMK1.out _)) (HSB.out _ (hBw1.alloc (by rw [hz1]; omega) _)) ?_ ?_
    · simp only [Act.put, List.setIfInBounds_toArray, List.set_cons_zero, List.set_cons_succ]
      obtain ⟨W2, hW2⟩ : ∃ W, W = W1.alloc (.cells ((List.replicate n1 ((false, 0, 0, 0) : Bool × Int × Int × Int)).flatMap cellL).toArray 59) := ⟨_, rfl⟩
      have hz2 : W2.heap.size = w0.heap.size + 2 := by rw [hW2, World.size_alloc, hz1]
      have hBw2 : Below w0.heap.size w0 W2 := by rw [hW2]; exact hBw1.alloc (by rw [hz1]; omega) _
      have hS2 : (World.cell? W2 ⟨hb, 0, none⟩ = some (.int .i64 m.old) ∧ World.cell? W2 ⟨hb, 1, none⟩ = some (.slice o1 n1 c1) ∧ World.cell? W2 ⟨hb, 2, none⟩ = some (.slice o2 n2 c2)) := HSB.out _ hBw2
      have xo : RowAt W2 (w0.heap.size) 48 #[.int .i64 0, .slice none 0 0, .slice none 0 0] := by rw [hW2]; exact RowAt.old xo _
      have x1 : RecAt W2 (w0.heap.size + 1) 59 cellL (List.replicate n1 ((false, 0, 0, 0) : Bool × Int × Int × Int)) := by
        have h := RowAt.new W1 59 ((List.replicate n1 ((false, 0, 0, 0) : Bool × Int × Int × Int)).flatMap cellL).toArray
        rw [hz1] at h
        rw [hW2]; exact h
      rw [← hW2]
      clear hW2
      refine wpAnyH_ready (rs := [15]) (by kernel_rfl) (by simp) ?_
      refine ready_valH 15 (some 19) rfl rfl rfl (.slice (some ⟨w0.heap.size + 2, 0, none⟩) n2 n2) (W2.alloc (.cells ((List.replicate n2 (0 : Int)).flatMap intL).toArray 3)) (by rw [← hz2]; exact run_makeH 23 (.tmp 18) rfl _ _ rfl (HMK2.out _)) (HSB.out _ (hBw2.alloc (by rw [hz2]; omega) _)) ?_ AllReadyH.nil
      · simp only [Act.put, List.setIfInBounds_toArray, List.set_cons_zero, List.set_cons_succ]
        obtain ⟨W3, hW3⟩ : ∃ W, W = W2.alloc (.cells ((List.replicate n2 (0 : Int)).flatMap intL).toArray 3) := ⟨_, rfl⟩
        have hz3 : W3.heap.size = w0.heap.size + 3 := by rw [hW3, World.size_alloc, hz2]
        have hBw3 : Below w0.heap.size w0 W3 := by rw [hW3]; exact hBw2.alloc (by rw [hz2]; omega) _
        have hS3 : (World.cell? W3 ⟨hb, 0, none⟩ = some (.int .i64 m.old) ∧ World.cell? W3 ⟨hb, 1, none⟩ = some (.slice o1 n1 c1) ∧ World.cell? W3 ⟨hb, 2, none⟩ = some (.slice o2 n2 c2)) := HSB.out _ hBw3
        have xo : RowAt W3 (w0.heap.size) 48 #[.int .i64 0, .slice none 0 0, .slice none 0 0] := by rw [hW3]; exact RowAt.old xo _
        have x1 : RecAt W3 (w0.heap.size + 1) 59 cellL (List.replicate n1 ((false, 0, 0, 0) : Bool × Int × Int × Int)) := by rw [hW3]; exact RowAt.old x1 _
        have x2 : RecAt W3 (w0.heap.size + 2) 3 intL (List.replicate n2 (0 : Int)) := by
          have h := RowAt.new W2 3 ((List.replicate n2 (0 : Int)).flatMap intL).toArray
          rw [hz2] at h
          rw [hW3]; exact h
        rw [← hW3]
        clear hW3
        refine held_val 16 (some 20) rfl rfl (by kernel_rfl) (by kernel_rfl) (by kernel_rfl) noPanic_put rfl (.agg #[.int .i64 m.old, .slice (some ⟨w0.heap.size + 1, 0, none⟩) n1 n1, .slice (some ⟨w0.heap.size + 2, 0, none⟩) n2 n2]) (fun _ => by go_simp) hS3 ?_
        simp only [Act.put, List.setIfInBounds_toArray, List.set_cons_zero, List.set_cons_succ]
        refine held_step 18 (by kernel_rfl) rfl rfl fun K18 hK18 => ?_
        refine wp_store_row 48 _ _ rfl (w0.heap.size) #[.int .i64 m.old, .slice (some ⟨w0.heap.size + 1, 0, none⟩) n1 n1, .slice (some ⟨w0.heap.size + 2, 0, none⟩) n2 n2] rfl rfl 48 _ xo zero_hp.2 rfl (hp_one _ _ _ _ _ _ _) ?_
        obtain ⟨w4, hw4⟩ : ∃ w4, w4 = W3.setRow (w0.heap.size) #[.int .i64 m.old, .slice (some ⟨w0.heap.size + 1, 0, none⟩) n1 n1, .slice (some ⟨w0.heap.size + 2, 0, none⟩) n2 n2] := ⟨_, rfl⟩
        have hg4 : W3.grownBy w4 (some (w0.heap.size)) := by rw [hw4]; exact ⟨rfl, rfl, rfl, by simp, fun k _ hne => setRow_other W3 (w0.heap.size) k _ (by intro e; exact hne (by rw [e]))⟩
        have xo4 : RowAt w4 (w0.heap.size) 48 #[.int .i64 m.old, .slice (some ⟨w0.heap.size + 1, 0, none⟩) n1 n1, .slice (some ⟨w0.heap.size + 2, 0, none⟩) n2 n2] := by rw [hw4]; exact setRow_heap _ _ _ _ _ _ xo
        rw [← hw4]
        clear hw4
        have x14 : RecAt w4 (w0.heap.size + 1) 59 cellL (List.replicate n1 ((false, 0, 0, 0) : Bool × Int × Int × Int)) := RowAt.grown x1 hg4 (by intro e; injection e; omega)
        have x24 : RecAt w4 (w0.heap.size + 2) 3 intL (List.replicate n2 (0 : Int)) := RowAt.grown x2 hg4 (by intro e; injection e; omega)
        have hB4 : Below w0.heap.size w0 w4 := hBw3.grown hg4 (by rw [hz3]; omega) (fun k e => by cases e; omega)
        refine hK18.out _ _ (HSB.out _ hB4) ?_
        refine wpAnyH_done (by kernel_rfl) ?_ _
        refine NoPanic.normal ?_
        exact HKK.out (w0.heap.size + 1) (w0.heap.size + 2) (w0.heap.size) w4 (by omega) (by omega) (by omega) (by omega) (by omega) (by omega) xo4 x14 x24 hB4
    refine ready_valH 15 (some 19) rfl rfl rfl (.slice (some ⟨w0.heap.size + 1, 0, none⟩) n2 n2) (W1.alloc (.cells ((List.replicate n2 (0 : Int)).flatMap intL).toArray 3)) (by rw [← hz1]; exact run_makeH 23 (.tmp 18) rfl _ _ rfl (HMK2.out _)) (HSB.out _ (hBw1.alloc (by rw [hz1]; omega) _)) ?_ AllReadyH.nil
    · simp only [Act.put, List.setIfInBounds_toArray, List.set_cons_zero, List.set_cons_succ]
      obtain ⟨W2, hW2⟩ : ∃ W, W = W1.alloc (.cells ((List.replicate n2 (0 : Int)).flatMap intL).toArray 3) := ⟨_, rfl⟩
      have hz2 : W2.heap.size = w0.heap.size + 2 := by rw [hW2, World.size_alloc, hz1]
      have hBw2 : Below w0.heap.size w0 W2 := by rw [hW2]; exact hBw1.alloc (by rw [hz1]; omega) _
      have hS2 : (World.cell? W2 ⟨hb, 0, none⟩ = some (.int .i64 m.old) ∧ World.cell? W2 ⟨hb, 1, none⟩ = some (.slice o1 n1 c1) ∧ World.cell? W2 ⟨hb, 2, none⟩ = some (.slice o2 n2 c2)) := HSB.out _ hBw2
      have xo : RowAt W2 (w0.heap.size) 48 #[.int .i64 0, .slice none 0 0, .slice none 0 0] := by rw [hW2]; exact RowAt.old xo _
      have x2 : RecAt W2 (w0.heap.size + 1) 3 intL (List.replicate n2 (0 : Int)) := by
        have h := RowAt.new W1 3 ((List.replicate n2 (0 : Int)).flatMap intL).toArray
        rw [hz1] at h
        rw [hW2]; exact h
      rw [← hW2]
      clear hW2
      refine wpAnyH_ready (rs := [9]) (by kernel_rfl) (by simp) ?_
      refine ready_valH 9 (some 13) rfl rfl rfl (.slice (some ⟨w0.heap.size + 2, 0, none⟩) n1 n1) (W2.alloc (.cells ((List.replicate n1 ((false, 0, 0, 0) : Bool × Int × Int × Int)).flatMap cellL).toArray 59)) (by rw [← hz2]; exact run_makeH 28 (.tmp 12) rfl _ _ rfl (HMK1.out _)) (HSB.out _ (hBw2.alloc (by rw [hz2]; omega) _)) ?_ AllReadyH.nil
      · simp only [Act.put, List.setIfInBounds_toArray, List.set_cons_zero, List.set_cons_succ]
        obtain ⟨W3, hW3⟩ : ∃ W, W = W2.alloc (.cells ((List.replicate n1 ((false, 0, 0, 0) : Bool × Int × Int × Int)).flatMap cellL).toArray 59) := ⟨_, rfl⟩
        have hz3 : W3.heap.size = w0.heap.size + 3 := by rw [hW3, World.size_alloc, hz2]
        have hBw3 : Below w0.heap.size w0 W3 := by rw [hW3]; exact hBw2.alloc (by rw [hz2]; omega) _
        have hS3 : (World.cell? W3 ⟨hb, 0, none⟩ = some (.int .i64 m.old) ∧ World.cell? W3 ⟨hb, 1, none⟩ = some (.slice o1 n1 c1) ∧ World.cell? W3 ⟨hb, 2, none⟩ = some (.slice o2 n2 c2)) := HSB.out _ hBw3
        have xo : RowAt W3 (w0.heap.size) 48 #[.int .i64 0, .slice none 0 0, .slice none 0 0] := by rw [hW3]; exact RowAt.old xo _
        have x2 : RecAt W3 (w0.heap.size + 1) 3 intL (List.replicate n2 (0 : Int)) := by rw [hW3]; exact RowAt.old x2 _
        have x1 : RecAt W3 (w0.heap.size + 2) 59 cellL (List.replicate n1 ((false, 0, 0, 0) : Bool × Int × Int × Int)) := by
          have h := RowAt.new W2 59 ((List.replicate n1 ((false, 0, 0, 0) : Bool × Int × Int × Int)).flatMap cellL).toArray
          rw [hz2] at h
          rw [hW3]; exact h
        rw [← hW3]
        clear hW3
        refine held_val 16 (some 20) rfl rfl (by kernel_rfl) (by kernel_rfl) (by kernel_rfl) noPanic_put rfl (.agg #[.int .i64 m.old, .slice (some ⟨w0.heap.size + 2, 0, none⟩) n1 n1, .slice (some ⟨w0.heap.size + 1, 0, none⟩) n2 n2]) (fun _ => by go_simp) hS3 ?_
        simp only [Act.put, List.setIfInBounds_toArray, List.set_cons_zero, List.set_cons_succ]
        refine held_step 18 (by kernel_rfl) rfl rfl fun K18 hK18 => ?_
        refine wp_store_row 48 _ _ rfl (w0.heap.size) #[.int .i64 m.old, .slice (some ⟨w0.heap.size + 2, 0, none⟩) n1 n1, .slice (some ⟨w0.heap.size + 1, 0, none⟩) n2 n2] rfl rfl 48 _ xo zero_hp.2 rfl (hp_one _ _ _ _ _ _ _) ?_
        obtain ⟨w4, hw4⟩ : ∃ w4, w4 = W3.setRow (w0.heap.size) #[.int .i64 m.old, .slice (some ⟨w0.heap.size + 2, 0, none⟩) n1 n1, .slice (some ⟨w0.heap.size + 1, 0, none⟩) n2 n2] := ⟨_, rfl⟩
        have hg4 : W3.grownBy w4 (some (w0.heap.size)) := by rw [hw4]; exact ⟨rfl, rfl, rfl, by simp, fun k _ hne => setRow_other W3 (w0.heap.size) k _ (by intro e; exact hne (by rw [e]))⟩
        have xo4 : RowAt w4 (w0.heap.size) 48 #[.int .i64 m.old, .slice (some ⟨w0.heap.size + 2, 0, none⟩) n1 n1, .slice (some ⟨w0.heap.size + 1, 0, none⟩) n2 n2] := by rw [hw4]; exact setRow_heap _ _ _ _ _ _ xo
        rw [← hw4]
        clear hw4
        have x14 : RecAt w4 (w0.heap.size + 2) 59 cellL (List.replicate n1 ((false, 0, 0, 0) : Bool × Int × Int × Int)) := RowAt.grown x1 hg4 (by intro e; injection e; omega)
        have x24 : RecAt w4 (w0.heap.size + 1) 3 intL (List.replicate n2 (0 : Int)) := RowAt.grown x2 hg4 (by intro e; injection e; omega)
        have hB4 : Below w0.heap.size w0 w4 := hBw3.grown hg4 (by rw [hz3]; omega) (fun k e => by cases e; omega)
        refine hK18.out _ _ (HSB.out _ hB4) ?_
        refine wpAnyH_done (by kernel_rfl) ?_ _
        refine NoPanic.normal ?_
        exact HKK.out (w0.heap.size + 2) (w0.heap.size + 1) (w0.heap.size) w4 (by omega) (by omega) (by omega) (by omega) (by omega) (by omega) xo4 x14 x24 hB4
end Go.Proofs.Ytoaancgmahdbnaa
