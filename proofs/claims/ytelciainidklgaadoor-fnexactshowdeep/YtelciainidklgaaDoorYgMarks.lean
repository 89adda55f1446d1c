/-
  Marks as an array: read and written whole, held against each other; what marksOf, areRisingBelow and withoutNotes answer.
-/
import Derived.Test.YtelciainidklgaaDoorYgGoodS
import Derived.Test.YtelciainidklgaaDoorImplNums
import Derived.ChangeKeysEq
namespace Go.Proofs.YtelciainidklgaaDoor
open Go.RowKit
set_option linter.unusedVariables false

/-- Marks as a value. -/
abbrev mkA (ms : List Bool) : Array Value := (ms.flatMap boolL).toArray
theorem mkA_size (ms : List Bool) : (mkA ms).size = ms.length := by simp [mkA, rec_len boolL 1 boolL_len]
theorem mkA_get {ms : List Bool} {i : Nat} (hi : i < ms.length) : (mkA ms)[i]? = some (.bool (bAt ms i)) := by
  have := rec_get boolL 1 boolL_len ms i 0 hi (by decide)
  rw [Nat.mul_one, Nat.add_zero] at this
  rw [List.getElem?_toArray, this]; rfl
theorem mkA_one (ms : List Bool) : (mkA ms).all (·.oneCell') = true := by
  rw [Array.all_eq_true_iff_forall_mem]
  intro v hv
  obtain ⟨x, _, hx⟩ := List.mem_flatMap.1 (show v ∈ ms.flatMap boolL by simpa using hv)
  simp [boolL] at hx
  rw [hx]; rfl
theorem zero_cm : (∀ w, (zeroValue 78).run Tryd.prog w = .ok (.agg (mkA (List.replicate 200 false))) w) ∧ (Tryd.prog.info? 78).map (·.size) = some 200 := zero_of_info (by kernel_rfl)
theorem cm_info {ms : List Bool} (h : ms.length = 200) : (Tryd.prog.info? 78).map (·.size) = some (mkA ms).size := by rw [zero_cm.2, mkA_size, h]
theorem load_cm {ops : Array Oper} {rest : List Oper} {o : Oper} {a : Act} {w : World} {Q : Exit → Act → World → Prop} (hgd : o.guard = none) (x : Operand) (ho : o.op = .load 78 x)
    (b : Nat) (hx : a.eval x = .pointer (some ⟨b, 0, none⟩)) (ms : List Bool) (hN : RecAt w b 78 boolL ms) (hl : ms.length = 200)
    (h : wpList Tryd.prog ops Q rest (a.put o.dst (.agg (mkA ms))) w) : wpList Tryd.prog ops Q (o :: rest) a w :=
  wpList_load_row hgd 78 x ho b hx 78 (mkA ms) (0, 0) _ hN Tryd.underlying78 rfl (cm_info hl) h
theorem store_cm {ops : Array Oper} {rest : List Oper} {o : Oper} {a : Act} {w : World} {Q : Exit → Act → World → Prop} (hgd : o.guard = none) (x y : Operand) (ho : o.op = .store 78 x y) (hd : o.dst = none)
    (b : Nat) (ms : List Bool) (hx : a.eval x = .pointer (some ⟨b, 0, none⟩)) (hy : a.eval y = .agg (mkA ms)) (ms0 : List Bool) (hN : RecAt w b 78 boolL ms0) (h0 : ms0.length = 200) (hl : ms.length = 200)
    (h : ∀ w', RecAt w' b 78 boolL ms → w.grownBy w' (some b) → w'.heap.size = w.heap.size → wpList Tryd.prog ops Q rest a w') : wpList Tryd.prog ops Q (o :: rest) a w := by
  refine wpList_store_row hgd 78 x y ho b (mkA ms) hx hy 78 (mkA ms0) hN (cm_info hl) (by rw [mkA_size, mkA_size, h0, hl]) (mkA_one ms) ?_
  rw [hd]
  exact h _ (setRow_heap w b _ _ _ _ hN) ⟨rfl, rfl, rfl, by simp, fun k _ hne => setRow_other w b k _ (by intro e; exact hne (by rw [e]))⟩ (by simp)
theorem cm_cell {W : World} {b T : Nat} {ms : List Bool} (h : RecAt W b T boolL ms) {i : Nat} (hi : i < ms.length) : W.cell? ⟨b, i, none⟩ = some (.bool (bAt ms i)) := by
  have := RecAt.cell (c := 1) h boolL_len i 0 hi (by decide)
  simpa [boolL, bAt] using this
theorem cm_set {w : World} {b T : Nat} {ms : List Bool} (h : RecAt w b T boolL ms) (i : Nat) (x : Bool) : RecAt (w.setCell ⟨b, i, none⟩ (.bool x)) b T boolL (ms.set i x) := by
  have h1 := heap_setCell_same w b i _ _ (.bool x) h
  have e1 : ∀ l : List Bool, l.flatMap boolL = l.map Value.bool := fun l => by
    induction l with
    | nil => rfl
    | cons a l ih => rw [List.flatMap_cons, ih, List.map_cons]; rfl
  have e2 : ((ms.flatMap boolL).toArray).setIfInBounds i (.bool x) = ((ms.set i x).flatMap boolL).toArray := by
    rw [e1, e1, List.map_set]; simp
  rw [e2] at h1
  exact h1
theorem cm_froz {w : World} {b T : Nat} {ms : List Bool} (h : RecAt w b T boolL ms) (i : Nat) : w.frozen? ⟨b, i, none⟩ = false := frozen_of_row w b i _ _ h
theorem MarksAt.of_rec {W : World} {mb T : Nat} {ms : List Bool} (h : RecAt W mb T boolL ms) : MarksAt W mb 0 ms := fun i hi => by
  rw [Nat.zero_add]; exact cm_cell h hi

theorem eqItems_marks (d : Nat) (w : World) (xs ys : List Bool) (hl : xs.length = ys.length) : ∀ is : List Nat, (∀ i ∈ is, i < xs.length) → (Op.eqItems (d + 1) 4 1 (mkA xs) (mkA ys) is).run Tryd.prog w = .ok (is.all fun i => bAt xs i == bAt ys i) w
  | [], _ => by simp [Op.eqItems]
  | i :: is, h => by
    have hi : i < xs.length := h i (List.mem_cons_self ..)
    have ih := eqItems_marks d w xs ys hl is (fun j hj => h j (List.mem_cons_of_mem _ hj))
    have p1 : (part 4 (mkA xs) (i * 1)).run Tryd.prog w = .ok (.bool (bAt xs i)) w := run_part_plain w (by kernel_rfl) (by rw [Nat.mul_one]; exact mkA_get hi)
    have p2 : (part 4 (mkA ys) (i * 1)).run Tryd.prog w = .ok (.bool (bAt ys i)) w := run_part_plain w (by kernel_rfl) (by rw [Nat.mul_one]; exact mkA_get (by omega))
    have p3 : (Op.equalIn (d + 1) 4 (.bool (bAt xs i)) (.bool (bAt ys i))).run Tryd.prog w = .ok (bAt xs i == bAt ys i) w := run_equalIn_bool' w d 4 _ _ Tryd.underlying4
    simp only [Op.eqItems, Sem.run_bind, p1, p2, p3, Result.andThen_ok, List.all_cons]
    cases hq : (bAt xs i == bAt ys i) with
    | false => simp
    | true => simpa using ih
theorem bAt_ext {xs ys : List Bool} (hl : xs.length = ys.length) : ((List.range xs.length).all fun i => bAt xs i == bAt ys i) = decide (xs = ys) := by
  rw [Bool.eq_iff_iff]
  simp only [List.all_eq_true, List.mem_range, beq_iff_eq, decide_eq_true_eq]
  refine ⟨fun h => List.ext_getElem hl fun i h1 h2 => ?_, fun h => fun i _ => by rw [h]⟩
  have := h i h1
  simpa [bAt, List.getD, List.getElem?_eq_getElem h1, List.getElem?_eq_getElem h2] using this
theorem run_eql_marks (w : World) (xs ys : List Bool) (hx : xs.length = 200) (hy : ys.length = 200) : (binOp .eql 78 (.agg (mkA xs)) (.agg (mkA ys))).run Tryd.prog w = .ok (.bool (decide (xs = ys))) w := by
  rw [run_eql_struct]
  have hi : ∃ i, Tryd.prog.info? 4 = some i := by
    have h : (Tryd.prog.info? 4).isSome = true := by kernel_rfl
    exact Option.isSome_iff_exists.1 h
  obtain ⟨i, hi⟩ := hi
  rw [run_equalIn_array w 9999 (mkA xs) (mkA ys) Tryd.underlying78 hi]
  have hc : Tryd.prog.cellsOf 4 = 1 := by kernel_rfl
  rw [hc, eqItems_marks 9998 w xs ys (by rw [hx, hy]) (List.range 200) (fun i hi => by rw [hx]; exact List.mem_range.1 hi), ← hx, bAt_ext (by rw [hx, hy])]
  rfl

/-- Marks are held against each other, as an operation. -/
theorem eql_cm {ops : Array Oper} {rest : List Oper} {o : Oper} {a : Act} {w : World} {Q : Exit → Act → World → Prop} (hgd : o.guard = none) (x y : Operand) (ho : o.op = .binOp .eql 78 x y 78)
    (xs ys : List Bool) (hx : a.eval x = .agg (mkA xs)) (hy : a.eval y = .agg (mkA ys)) (h1 : xs.length = 200) (h2 : ys.length = 200)
    (h : wpList Tryd.prog ops Q rest (a.put o.dst (.bool (decide (xs = ys)))) w) : wpList Tryd.prog ops Q (o :: rest) a w := by
  refine wpList_plain hgd fun K hK => ?_
  have hg : Tryd.prog.eqGuardType Tryd.prog.depth 78 = false := by kernel_rfl
  unfold Oper.wp execOp
  simp only [ho, hx, hy, Sem.run_bind, run_eqGuard_agg _ _ _ _ _ _ _ hg, run_eql_marks w xs ys h1 h2, Result.andThen_ok, Sem.run_pure]
  exact hK _ _ h

/-- The noted ones, as marks. -/
def nmk (l : List Int) : List Bool := rootsM (List.replicate 200 false) l
theorem nmk_len (l : List Int) : (nmk l).length = 200 := by unfold nmk; rw [rootsM_len, List.length_replicate]
theorem bAt_set (ms : List Bool) (j i : Nat) (hi : i < ms.length) : bAt (ms.set j true) i = (decide (i = j) || bAt ms i) := by
  unfold bAt
  simp only [List.getD]
  by_cases h : i = j
  · subst h; rw [List.getElem?_set_self hi]; simp
  · rw [List.getElem?_set_ne (fun e => h e.symm), decide_eq_false h]; rfl
theorem bAt_rootsM (l : List Int) : ∀ (ms : List Bool) (i : Nat), i < ms.length → (∀ n ∈ l, 0 ≤ n) → bAt (rootsM ms l) i = (bAt ms i || decide ((i : Int) ∈ l)) := by
  induction l with
  | nil => intro ms i _ _; simp [rootsM]
  | cons r l ih =>
    intro ms i hi h
    have h0 := h r (List.mem_cons_self ..)
    show bAt (rootsM (ms.set r.toNat true) l) i = _
    rw [ih _ i (by rw [List.length_set]; exact hi) (fun n hn => h n (List.mem_cons_of_mem _ hn)), bAt_set _ _ _ hi]
    have e : decide (i = r.toNat) = decide ((i : Int) = r) := decide_eq_decide.2 (by omega)
    rw [e]
    by_cases h1 : (i : Int) = r <;> by_cases h2 : (i : Int) ∈ l <;> cases bAt ms i <;> simp [h1, h2]
theorem bAt_repl (n i : Nat) : bAt (List.replicate n false) i = false := by
  unfold bAt
  simp only [List.getD, List.getElem?_replicate]
  split <;> rfl
theorem bAt_nmk {l : List Int} (h : ∀ n ∈ l, 0 ≤ n) {i : Nat} (hi : i < 200) : bAt (nmk l) i = decide ((i : Int) ∈ l) := by
  unfold nmk
  rw [bAt_rootsM l _ i (by rw [List.length_replicate]; exact hi) h, bAt_repl, Bool.false_or]

set_option maxRecDepth 100000 in
set_option maxHeartbeats 4000000 in
theorem marksOf_any (l : List Int) (v : Value) (w : World) (hv : InR w v intL 1 l) (hl : l.length ≤ 1048576) (hin : ∀ n ∈ l, 0 ≤ n ∧ n < 200) :
    Calls Tryd.prog 63 #[v] w fun e w' => e = .returned (.agg (mkA (nmk l))) ∧ Below w.heap.size w w' := by
  obtain ⟨o, cap, rfl, hc⟩ := hv.intY
  have HC := hideT' hc
  have HI := hideT' hin
  obtain ⟨n, hn⟩ : ∃ n, n = l.length := ⟨_, rfl⟩
  rw [← hn] at hl ⊢
  have HN := hideT' hn
  have hz := zero_cm.1
  obtain ⟨W, hW⟩ : ∃ W, W = (w.alloc (.cells (mkA (List.replicate 200 false)) 78)).alloc (.cells (mkA (List.replicate 200 false)) 78) := ⟨_, rfl⟩
  have hWs : W.heap.size = w.heap.size + 2 := by rw [hW]; simp
  have hBW : Below w.heap.size w W := by rw [hW]; exact ((Below.refl _ _).alloc (Nat.le_refl _) _).alloc (by simp) _
  have R0 : RecAt W w.heap.size 78 boolL (List.replicate 200 false) := by rw [hW]; exact RowAt.old (RowAt.new w _ _) _
  have R1 : RecAt W (w.heap.size + 1) 78 boolL (List.replicate 200 false) := by
    have := RowAt.new (w.alloc (.cells (mkA (List.replicate 200 false)) 78)) 78 (mkA (List.replicate 200 false))
    rw [World.size_alloc] at this
    rw [hW]; exact this
  have HW := hideT' (And.intro R0 (And.intro R1 hBW))
  have HWE := hideT' hW
  obtain ⟨N, hNN⟩ : ∃ N, N = mkA (List.replicate 200 false) := ⟨_, rfl⟩
  rw [← hNN] at hz HWE
  clear hv hc hn hin R0 R1 hBW hW hNN
  go_enter Tryd.func63, Tryd.ntmps63
  go_wp2_with fail
  rw [← HWE.out]
  go_loopg [8] n (fun g i wr => ∃ j : Nat, g = n - j ∧ j ≤ n ∧ i = .int .i64 (j : Int) ∧ (RecAt wr w.heap.size 78 boolL (List.replicate 200 false) ∧ RecAt wr (w.heap.size + 1) 78 boolL (rootsM (List.replicate 200 false) (l.take j)) ∧ Below w.heap.size w wr))
  case atStart => exact ⟨0, rfl, by omega, by go_num, HW.out⟩
  case round =>
    obtain ⟨j, hg, hj, rfl, h0, h1, hB⟩ := hrel
    by_cases hlt : (j : Int) < (n : Int)
    · have hj' : j < l.length := by have := HN.out; omega
      obtain ⟨x, hx⟩ : ∃ x, l[j]? = some x := ⟨l[j], by rw [List.getElem?_eq_getElem]⟩
      obtain ⟨g0, ho, hg0, hcj0⟩ := HC.out j x hx
      subst ho
      have hcj := (hB.cell (p := ⟨g0, j, none⟩) hg0).trans hcj0
      obtain ⟨hx0, hx1⟩ := HI.out x (List.mem_of_getElem? hx)
      obtain ⟨r, rfl⟩ : ∃ r : Nat, x = (r : Int) := ⟨x.toNat, by omega⟩
      have hr : r < 200 := by omega
      have hlen : (rootsM (List.replicate 200 false) (l.take j)).length = 200 := by rw [rootsM_len, List.length_replicate]
      have hcc := cm_cell h1 (i := r) (by rw [hlen]; exact hr)
      have hff := cm_froz h1 r
      have H1 := hideT' (cm_set h1 r true)
      have hgs := grown_set wr (w.heap.size + 1) r (.bool true)
      have H0 := hideT' (RowAt.grown h0 hgs (by intro e; injection e; omega))
      have HB := hideT' (hB.grown hgs hB.size (fun k e => by cases e; omega))
      have HTK : Hid (rootsM (List.replicate 200 false) (l.take (j + 1)) = (rootsM (List.replicate 200 false) (l.take j)).set r true) := by
        unfold Hid; rw [rootsM_take hj']; congr 1
        simp [List.getD, hx]
      clear h0 h1 hB hgs hx hcj0 hlen
      go_wp2
      go_roundg (n - (j + 1))
      case measure => omega
      case rel => exact ⟨j + 1, rfl, by omega, by go_num, H0.out, by rw [HTK.out]; exact H1.out, HB.out⟩
    · have hjn : j = l.length := by have := HN.out; omega
      have h2 : RecAt wr (w.heap.size + 1) 78 boolL (nmk l) := by
        rw [hjn, List.take_length] at h1; exact h1
      have HB := hideT' hB
      clear h1 hB hjn
      go_wp2_with (first | (refine load_cm rfl _ rfl (w.heap.size + 1) rfl (nmk l) h2 (nmk_len l) ?_) | (refine store_cm rfl _ _ rfl rfl w.heap.size (nmk l) rfl rfl (List.replicate 200 false) h0 (by simp) (nmk_len l) ?_; intro w5 hR5 hg5 hs5))
      exact bodyPost_ret (v := .agg (mkA (nmk l))) (results_cell_row Tryd.results63 _ _ w.heap.size 78 (mkA (nmk l)) (0, 0) _ rfl hR5 Tryd.underlying78 rfl (cm_info (nmk_len l))) rfl ⟨rfl, HB.out.grown hg5 HB.out.size (fun k e => by cases e; exact Nat.le_refl _)⟩

set_option maxRecDepth 100000 in
set_option maxHeartbeats 4000000 in
theorem rising_any (l : List Int) (lim : Int) (v : Value) (w : World) (hv : InR w v intL 1 l) (hl : l.length ≤ 1048576) (hlim : lim ≤ 200) :
    Calls Tryd.prog 62 #[v, .int .i64 lim] w fun e w' => e = .returned (.bool (rise lim 0 l)) ∧ w' = w := by
  obtain ⟨o, cap, rfl, hc⟩ := hv.intY
  have HC := hideT' hc
  obtain ⟨n, hn⟩ : ∃ n, n = l.length := ⟨_, rfl⟩
  rw [← hn] at hl ⊢
  have HN := hideT' hn
  obtain ⟨R, hR⟩ : ∃ R, R = rise lim 0 l := ⟨_, rfl⟩
  rw [← hR]
  have HR := hideT' hR
  clear hv hc hn hR
  go_enter Tryd.func62, Tryd.ntmps62
  go_wp2_with fail
  go_loopg [5, 10] n (fun g i0 i wr => ∃ (j : Nat) (least : Int), g = n - j ∧ j ≤ n ∧ (i0 = .int .i64 least ∧ 0 ≤ least ∧ least ≤ 200) ∧ i = .int .i64 (j : Int) ∧ Hid (rise lim 0 l = rise lim least (l.drop j)) ∧ w = wr)
  case atStart => exact ⟨0, 0, rfl, by omega, ⟨by go_num, by omega, by omega⟩, by go_num, rfl, rfl⟩
  case round =>
    obtain ⟨j, least, hg, hj, ⟨rfl, hl0, hl1⟩, rfl, HJ, rfl⟩ := hrel
    by_cases hlt : (j : Int) < (n : Int)
    · have hj' : j < l.length := by have := HN.out; omega
      obtain ⟨x, hx⟩ : ∃ x, l[j]? = some x := ⟨l[j], by rw [List.getElem?_eq_getElem]⟩
      obtain ⟨g0, ho, hg0, hcj⟩ := HC.out j x hx
      subst ho
      have hxd : l.getD j default = x := by simp [List.getD, hx]
      have hall := rise_drop hj' HJ.out
      rw [hxd] at hall
      have HALL := hideT' hall
      clear hx hxd hall
      by_cases h1 : x < least
      · have HF : Hid (R = false) := by unfold Hid; rw [HR.out, HALL.out, decide_eq_false (show ¬ least ≤ x by omega)]; simp
        go_wp2
        go_ret
        exact ⟨by rw [HF.out]; rfl, rfl⟩
      · by_cases h2 : lim ≤ x
        · have HF : Hid (R = false) := by unfold Hid; rw [HR.out, HALL.out, decide_eq_false (show ¬ x < lim by omega)]; simp
          go_wp2
          go_ret
          exact ⟨by rw [HF.out]; rfl, rfl⟩
        · have HY : Hid (rise lim 0 l = rise lim (x + 1) (l.drop (j + 1))) := by unfold Hid; rw [HALL.out, decide_eq_true (show least ≤ x by omega), decide_eq_true (show x < lim by omega)]; rfl
          go_wp2
          go_roundg (n - (j + 1))
          case measure => omega
          case rel => exact ⟨j + 1, x + 1, rfl, by omega, ⟨by go_num, by omega, by omega⟩, by go_num, HY, rfl⟩
    · have HF : Hid (R = true) := by
        unfold Hid
        rw [HR.out, HJ.out, List.drop_eq_nil_of_le (by have := HN.out; omega)]; rfl
      go_wp2
      go_ret
      exact ⟨by rw [HF.out]; rfl, rfl⟩

set_option maxRecDepth 100000 in
set_option maxHeartbeats 1000000 in
theorem withoutNotes_any (old : Int) (o1 : Option Addr) (n1 c1 : Nat) (o2 : Option Addr) (n2 c2 : Nat) (o3 : Option Addr) (n3 c3 : Nat) (w : World) :
    Calls Tryd.prog 37 #[.agg #[.int .i64 old, .slice o1 n1 c1, .slice o2 n2 c2, .slice o3 n3 c3]] w fun e w' => e = .returned (.agg #[.int .i64 old, .slice o1 n1 c1, .slice o2 n2 c2]) ∧ Below w.heap.size w w' := by
  have hz := zero_hp.1
  have hB : Below w.heap.size w ((w.alloc (.cells #[.int .i64 old, .slice o1 n1 c1, .slice o2 n2 c2, .slice o3 n3 c3] 31)).alloc (.cells #[.int .i64 0, .slice none 0 0, .slice none 0 0] 50)) := ((Below.refl _ _).alloc (Nat.le_refl _) _).alloc (by simp) _
  have hX : RowAt ((w.alloc (.cells #[.int .i64 old, .slice o1 n1 c1, .slice o2 n2 c2, .slice o3 n3 c3] 31)).alloc (.cells #[.int .i64 0, .slice none 0 0, .slice none 0 0] 50)) (w.heap.size + 1) 50 #[.int .i64 0, .slice none 0 0, .slice none 0 0] := by
    have := RowAt.new (w.alloc (.cells #[.int .i64 old, .slice o1 n1 c1, .slice o2 n2 c2, .slice o3 n3 c3] 31)) 50 #[.int .i64 0, .slice none 0 0, .slice none 0 0]
    rwa [World.size_alloc] at this
  have HB := hideT' hB
  clear hB
  go_enter Tryd.func37, Tryd.ntmps37
  go_wp2_with (refine store_3 rfl 50 _ _ rfl rfl zero_hp.2 (w.heap.size + 1) #[.int .i64 old, .slice o1 n1 c1, .slice o2 n2 c2] rfl (hp_one _ _ _ _ _ _ _) rfl rfl _ rfl hX ?_; intro w7 hR7 hg7 hs7)
  exact bodyPost_ret (v := .agg #[.int .i64 old, .slice o1 n1 c1, .slice o2 n2 c2]) (results_cell_row Tryd.results37 _ _ (w.heap.size + 1) 50 _ (0, 0) _ rfl hR7 Tryd.underlying50 rfl zero_hp.2) rfl ⟨rfl, HB.out.grown hg7 HB.out.size (fun k e => by cases e; omega)⟩
end Go.Proofs.YtelciainidklgaaDoor
