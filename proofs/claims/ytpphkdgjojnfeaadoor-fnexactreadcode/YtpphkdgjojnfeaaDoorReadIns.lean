/-
  What impl.readInstr answers: an instruction out of its line.
-/
import Derived.Test.YtpphkdgjojnfeaaDoorCodeRead
import Derived.Test.YtpphkdgjojnfeaaDoorCutLib
import Derived.Test.YtpphkdgjojnfeaaDoorShelfCode
import Derived.Test.YtpphkdgjojnfeaaDoorPkFraction
import Derived.Lib.AtoiErrMem
namespace Go.Proofs.YtpphkdgjojnfeaaDoor
open Go.RowKit
set_option linter.unusedVariables false

theorem parse_dig : ∀ (l : List UInt8) (acc : Nat), l.all isDig = true → acc * 10 ^ l.length + dval l < 10 ^ 12 → Lib.parseUint10 acc l = .ok (acc * 10 ^ l.length + dval l)
  | [], acc, _, _ => by simp [Lib.parseUint10, dval]
  | c :: m, acc, h, hb => by
    simp only [List.all_cons, Bool.and_eq_true] at h
    have hc := h.1
    unfold isDig at hc
    simp only [Bool.and_eq_true, decide_eq_true_eq] at hc
    rw [dval_cons, List.length_cons, Nat.pow_succ] at hb
    have e : acc * (10 ^ m.length * 10) + (dv c * 10 ^ m.length + dval m) = (acc * 10 + dv c) * 10 ^ m.length + dval m := by
      rw [Nat.add_mul, Nat.mul_comm (10 ^ m.length) 10, ← Nat.mul_assoc, Nat.add_assoc]
    rw [e] at hb
    have hp : 1 ≤ 10 ^ m.length := Nat.one_le_pow _ _ (by omega)
    have h1 : acc * 10 + dv c ≤ (acc * 10 + dv c) * 10 ^ m.length := Nat.le_mul_of_pos_right _ hp
    have hdv : c.toNat - 48 = dv c := rfl
    unfold Lib.parseUint10
    rw [if_pos hc, if_neg (by omega), if_neg (by rw [hdv]; omega), hdv, parse_dig m (acc * 10 + dv c) h.2 hb, dval_cons, List.length_cons, Nat.pow_succ, e]
theorem atoi_itoa {n : Int} (h0 : 0 ≤ n) (h1 : n ≤ 100000) : Lib.atoiAll (Lib.itoa n) = .ok n := by
  obtain ⟨hc, hv, ha⟩ := itoa_dig h0
  obtain ⟨l, hl⟩ : ∃ l, l = Lib.itoa n := ⟨_, rfl⟩
  rw [← hl] at hc hv ha ⊢
  cases l with
  | nil => simp [canonB] at hc
  | cons c m =>
    have hd := (canon_cons hc).1
    unfold isDig at hd
    simp only [Bool.and_eq_true, decide_eq_true_eq] at hd
    have hp := parse_dig (c :: m) 0 ha (by simp only [Nat.zero_mul, Nat.zero_add]; omega)
    simp only [Nat.zero_mul, Nat.zero_add] at hp
    unfold Lib.atoiAll
    simp only
    rw [if_neg (by omega)]
    unfold Lib.parseMag
    rw [if_neg (by simp), hp]
    simp only
    rw [if_neg (by omega), if_neg (by omega), if_neg (by omega), hv]

/-- The library's two errors lie in their variables. -/
def EV (w : World) : Prop := (∃ ev, w.cell? ⟨2, 0, none⟩ = some ev ∧ (ev = .nilIface ∨ ∃ te pe, ev = .iface te pe)) ∧ (∃ ev, w.cell? ⟨3, 0, none⟩ = some ev ∧ (ev = .nilIface ∨ ∃ te pe, ev = .iface te pe))
theorem cell_lt {w : World} {a : Addr} {v : Value} (h : w.cell? a = some v) : a.block < w.heap.size := World.block_lt_of_cell? w a h
theorem EV.below {w w' : World} (h : EV w) (hB : Below w.heap.size w w') : EV w' := by
  obtain ⟨⟨e1, h1, h2⟩, e3, h3, h4⟩ := h
  exact ⟨⟨e1, (hB.cell (p := ⟨2, 0, none⟩) (cell_lt h1)).trans h1, h2⟩, e3, (hB.cell (p := ⟨3, 0, none⟩) (cell_lt h3)).trans h3, h4⟩

/-- A number of a text: a number and no error, or whatever number and an error. -/
theorem atoiX_any (s : ByteArray) (w : World) (hs : s.size ≤ 1048576) (hE : EV w) :
    Calls Tryd.prog 39 #[.string s] w fun e w' => (∃ (v : Int) (E : Value) (q : Bool), e = .returned (.tuple #[.int .i64 v, E]) ∧ ((q = true ∧ E = .nilIface ∧ Lib.atoiAll s.data.toList = .ok v) ∨ (q = false ∧ (∃ tp p, E = .iface tp p) ∧ ∀ u, Lib.atoiAll s.data.toList ≠ .ok u))) ∧ Below w.heap.size w w' := by
  obtain ⟨⟨e1, h1, h2⟩, e3, h3, h4⟩ := hE
  cases h : Lib.atoiAll s.data.toList with
  | ok v =>
    refine (Tryd.strconv_Atoi_ok s (by omega) v h w).mono ?_
    rintro e w' ⟨rfl, hw⟩
    refine ⟨⟨v, _, true, rfl, .inl ⟨rfl, rfl, rfl⟩⟩, ?_⟩
    rcases hw with rfl | ⟨t, rfl⟩
    · exact Below.refl _ _
    · exact Lib.bytesWorld_below w 5 t
  | «syntax» =>
    refine (Tryd.strconv_Atoi_syntax s (by omega) h e1 w h1 h2).mono ?_
    rintro e w' ⟨N, rfl, _, _, hB⟩
    exact ⟨⟨0, _, false, rfl, .inr ⟨rfl, ⟨_, _, rfl⟩, fun u => by simp⟩⟩, hB⟩
  | range =>
    refine (Tryd.strconv_Atoi_range s (by omega) h e3 w h3 h4).mono ?_
    rintro e w' ⟨N, rfl, _, _, hB⟩
    exact ⟨⟨_, _, false, rfl, .inr ⟨rfl, ⟨_, _, rfl⟩, fun u => by simp⟩⟩, hB⟩

set_option maxHeartbeats 400000 in
theorem clone_any (s : ByteArray) (w : World) (hs : s.size ≤ 1048576) :
    Calls Tryd.prog 38 #[.string s] w fun e w' => e = .returned (.string s) ∧ Below w.heap.size w w' := by
  go_enter Tryd.func38, Tryd.ntmps38
  go_wp2_with fail
  refine (Tryd.stringslite_Clone s w (by omega)).mono ?_
  rintro e w1 ⟨rfl, hB⟩
  go_wp2
  go_ret
  exact ⟨rfl, hB⟩

/-- One cell of a row is written. -/
theorem store_rc {ops : Array Oper} {rest : List Oper} {op : Oper} {a : Act} {w : World} {Q : Exit → Act → World → Prop} (hgd : op.guard = none) (ty : TypeId) (x y : Operand) (ho : op.op = .store ty x y) (hd : op.dst = none)
    (b o : Nat) (v : Value) (hx : a.eval x = .pointer (some ⟨b, o, none⟩)) (hy : a.eval y = v) (hi : (Tryd.prog.info? ty).map (·.size) = some 1) (h1 : v.oneCell' = true) {T : TypeId} {cs : Array Value} (hR : RowAt w b T cs) (hon : o < cs.size)
    (h : ∀ w', RowAt w' b T (cs.setIfInBounds o v) → w.grownBy w' (some b) → w'.heap.size = w.heap.size → wpList Tryd.prog ops Q rest a w') : wpList Tryd.prog ops Q (op :: rest) a w :=
  wpList_plain hgd fun _ hK => by
    have hsome : (w.cell? ⟨b, o, none⟩).isSome = true := by
      rw [cell_of_row w b o _ _ _ hR, Array.getElem?_eq_getElem hon]; rfl
    unfold Oper.wp execOp
    simp only [ho, hx, hy, Instr.storeAt, Instr.sureAddr, Sem.run_bind, Sem.run_pure, Result.andThen_ok, run_storeVar_cell w b o ty v hsome (frozen_of_row w b _ _ _ hR) hi h1]
    have := h _ (heap_setCell_same w b o _ _ v hR) (grown_set w b o v) (by simp)
    have e : a.put op.dst undef = a := by rw [hd]; rfl
    refine hK _ _ ?_
    rw [e]
    exact this
/-- The one operation of a drawn region that may come up: a struct is written whole. -/
theorem held_store_row {ops : Array Oper} {Q : Exit → Act → World → Prop} {md : Region.Mode} {S : World → Prop} {o : Oper} {fuel : Nat} {listed : Array Bool} {a : Act} {w : World} (i : Nat) (hr : Region.ready md ops listed = [i]) (hi : ops[i]? = some o) (hw : Region.wanted o (yielded ops a.tmps) = true) (T : TypeId) (x y : Operand) (ho : o.op = .store T x y) (hd : o.dst = none)
    (b : Nat) (cs c0 : Array Value) (hx : a.eval x = .pointer (some ⟨b, 0, none⟩)) (hy : a.eval y = .agg cs) (hR : RowAt w b T c0) (hsz : (Tryd.prog.info? T).map (·.size) = some cs.size) (he : c0.size = cs.size) (hone : cs.all (·.oneCell') = true)
    (h : ∀ w', RowAt w' b T cs → w.grownBy w' (some b) → w'.heap.size = w.heap.size → S w' ∧ wpAnyH Tryd.prog md ops Q S fuel (listed.setIfInBounds i true) a w') : wpAnyH Tryd.prog md ops Q S (fuel + 1) listed a w := by
  refine wpAnyH_ready hr (by simp) (AllReadyH.cons hi (fun K hK => ?_) AllReadyH.nil)
  rw [if_pos hw]
  refine wp_store_row T x y ho b cs hx hy T c0 hR hsz he hone ?_
  rw [hd]
  have := h _ (setRow_heap w b _ _ _ _ hR) ⟨rfl, rfl, rfl, by simp, fun k _ hne => setRow_other w b k _ (by intro e; exact hne (by rw [e]))⟩ (by simp)
  exact hK.out _ _ this.1 (fun _ => this.2)
theorem resX_row_tmp {fn : Func} {x u : Tmp} {T : TypeId} (h : fn.results = #[.cell x T, .tmp u]) (tmps : Array Value) (w : World) (b : Nat) (cs : Array Value) (v : Value) (fs : Array Field)
    (hp : tmps.getD x undef = .pointer (some ⟨b, 0, none⟩)) (hv : tmps.getD u undef = v) (hN : RowAt w b T cs) (hu : Tryd.prog.underlying T = some (.struct fs)) (hi : (Tryd.prog.info? T).map (·.size) = some cs.size) : (results fn tmps).run Tryd.prog w = .ok (.tuple #[.agg cs, v]) w := by
  rw [results_cell_tmp h, hp, hv]
  simp only [asAddr, Sem.run_pure, Result.andThen, run_loadVar_row w b T T cs (0, 0) (.struct fs) hN hu rfl hi]
theorem run_row3 {o : Oper} {a : Act} {w : World} {x : Operand} {T : TypeId} {b : Nat} {cs : Array Value} {fs : Array Field} (ho : o.op = .load T x) (hx : a.eval x = .pointer (some ⟨b, 0, none⟩)) (hN : RowAt w b T cs) (hu : Tryd.prog.underlying T = some (.struct fs)) (hi : (Tryd.prog.info? T).map (·.size) = some cs.size) :
    (execOp a.eval o).run Tryd.prog w = .ok (.value (.agg cs)) w := by
  unfold execOp
  simp only [ho, hx, Instr.loadAt, Instr.sureAddr, Sem.run_bind, Sem.run_pure, Result.andThen_ok, run_loadVar_row w b T T cs (0, 0) (.struct fs) hN hu rfl hi]
end Go.Proofs.YtpphkdgjojnfeaaDoor
