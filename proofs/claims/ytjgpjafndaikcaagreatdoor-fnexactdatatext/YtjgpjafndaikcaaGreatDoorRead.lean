/-
  What impl.digitOf, readNat and readNats answer: a natural number's text as parts.
-/
import Derived.Test.YtjgpjafndaikcaaGreatDoorParts
import Derived.Test.YtjgpjafndaikcaaGreatDoorRep
import Derived.StillTailTactics
import Derived.Laws.ResultCell
namespace Go.Proofs.YtjgpjafndaikcaaGreatDoor
open Go.RowKit
set_option linter.unusedVariables false

/-- What a digit of any radix is worth. -/
def digI (n : Int) : Int := if 48 ≤ n ∧ n ≤ 57 then n - 48 else if 97 ≤ n ∧ n ≤ 102 then n - 87 else if 65 ≤ n ∧ n ≤ 70 then n - 55 else 16

theorem digitOf_dig (n : Int) (w : World) (h0 : 48 ≤ n) (h1 : n ≤ 57) :
    Calls Tryz.prog 162 #[.int .u8 n] w fun e w' => e = .returned (.int .i64 (n - 48)) ∧ w' = w := by
  go_enter Tryz.func162, Tryz.ntmps162
  go_wp2
  go_ret
  exact ⟨rfl, rfl⟩

/-- All parts 0. -/
def zP : List Int := List.replicate 204 0
theorem zP_len : zP.length = 204 := List.length_replicate
theorem zP_get (i : Nat) : zP.getD i 0 = 0 := by
  unfold zP; simp only [List.getD, List.getElem?_replicate]; split <;> rfl

theorem zero_nat : (∀ w, (zeroValue 83).run Tryz.prog w = .ok (.agg (natC 0 zP)) w) ∧ (Tryz.prog.info? 83).map (·.size) = some 205 := zero_of_info (by kernel_rfl)

theorem nat_info (u : Int) (p : List Int) (h : p.length = 204) : (Tryz.prog.info? 83).map (·.size) = some (natC u p).size := by
  rw [zero_nat.2, natC_size, h]

/-- A nat is read whole. -/
theorem load_nat {ops : Array Oper} {rest : List Oper} {o : Oper} {a : Act} {w : World} {Q : Exit → Act → World → Prop} (hgd : o.guard = none) (x : Operand) (ho : o.op = .load 83 x)
    (b : Nat) (hx : a.eval x = .pointer (some ⟨b, 0, none⟩)) (u : Int) (p : List Int) (hN : NatAt w b u p) (hl : p.length = 204)
    (h : wpList Tryz.prog ops Q rest (a.put o.dst (.agg (natC u p))) w) : wpList Tryz.prog ops Q (o :: rest) a w :=
  wpList_load_row hgd 83 x ho b hx 83 (natC u p) (0, 0) _ hN Tryz.underlying83 rfl (nat_info u p hl) h

/-- A nat is written whole. -/
theorem store_nat {ops : Array Oper} {rest : List Oper} {o : Oper} {a : Act} {w : World} {Q : Exit → Act → World → Prop} (hgd : o.guard = none) (x y : Operand) (ho : o.op = .store 83 x y) (hd : o.dst = none)
    (b : Nat) (u : Int) (p : List Int) (hx : a.eval x = .pointer (some ⟨b, 0, none⟩)) (hy : a.eval y = .agg (natC u p)) (u0 : Int) (p0 : List Int) (hN : NatAt w b u0 p0) (h0 : p0.length = 204) (hl : p.length = 204)
    (h : ∀ w', NatAt w' b u p → w.grownBy w' (some b) → w'.heap.size = w.heap.size → wpList Tryz.prog ops Q rest a w') : wpList Tryz.prog ops Q (o :: rest) a w := by
  refine wpList_store_row hgd 83 x y ho b (natC u p) hx hy 83 (natC u0 p0) hN (nat_info u p hl) (by rw [natC_size, natC_size, h0, hl]) (natC_one _ _) ?_
  rw [hd]
  refine h _ (setRow_heap w b _ _ _ _ hN) ⟨rfl, rfl, rfl, by simp, fun k _ hne => ?_⟩ (by simp)
  exact setRow_other w b k _ (by intro e; exact hne (by rw [e]))

theorem res_nat_tmp {fn : Func} {x u : Tmp} (h : fn.results = #[.cell x 83, .tmp u]) (tmps : Array Value) (w : World) (b : Nat) (n : Int) (p : List Int) (v : Value)
    (hp : tmps.getD x undef = .pointer (some ⟨b, 0, none⟩)) (hv : tmps.getD u undef = v) (hN : NatAt w b n p) (hl : p.length = 204) : (results fn tmps).run Tryz.prog w = .ok (.tuple #[.agg (natC n p), v]) w := by
  rw [results_cell_tmp h, hp, hv]
  simp only [asAddr, Sem.run_pure, Result.andThen, run_loadVar_row w b 83 83 (natC n p) (0, 0) _ hN Tryz.underlying83 rfl (nat_info n p hl)]

theorem NatAt.new (w : World) (u : Int) (p : List Int) : NatAt (w.alloc (.cells (natC u p) 83)) w.heap.size u p := heap_alloc_new _ _
theorem NatAt.old {w : World} {b : Nat} {u : Int} {p : List Int} (h : NatAt w b u p) (o : Obj) : NatAt (w.alloc o) b u p := by
  unfold NatAt; rw [Below.heap_alloc _ _ _ h.lt]; exact h
theorem NatAt.grown {w w' : World} {b : Nat} {u : Int} {p : List Int} {r : Option Nat} (h : NatAt w b u p) (hg : w.grownBy w' r) (hr : some b ≠ r) : NatAt w' b u p := by
  unfold NatAt; rw [hg.block b h.lt hr]; exact h
theorem NatAt.below {w w' : World} {b B : Nat} {u : Int} {p : List Int} (h : NatAt w b u p) (hg : Below B w w') (hr : b < B) : NatAt w' b u p := by
  unfold NatAt; rw [hg.block b hr]; exact h

set_option maxHeartbeats 400000 in
theorem readNat_no (s : ByteArray) (w : World) (hs : s.size ≤ maxLen) (hg : goodB s.data.toList = false) :
    Calls Tryz.prog 155 #[.string s] w fun e w' => e = .returned (.tuple #[.agg (natC 0 zP), .bool false]) ∧ Below w.heap.size w w' := by
  have hz := zero_nat.1
  have HG : Hid (goodB s.data.toList = false) := hg
  have A := (NatAt.new w 0 zP).old (.cells (natC 0 zP) 83)
  have B := NatAt.new (w.alloc (.cells (natC 0 zP) 83)) 0 zP
  have hB : Below w.heap.size w ((w.alloc (.cells (natC 0 zP) 83)).alloc (.cells (natC 0 zP) 83)) := ((Below.refl _ _).alloc (Nat.le_refl _) _).alloc (by simp) _
  simp only [World.size_alloc] at B
  clear hg
  go_enter Tryz.func155, Tryz.ntmps155
  go_wp2_with fail
  refine (implGood_any s _ hs).mono ?_
  rintro e w' ⟨rfl, rfl⟩
  rw [HG.out]
  go_wp2_with (first | (refine load_nat rfl _ rfl (w.heap.size + 1) rfl 0 zP B zP_len ?_) | (refine store_nat rfl _ _ rfl rfl w.heap.size 0 zP rfl rfl 0 zP A zP_len zP_len ?_; intro w1 hN1 hg1 hs1))
  refine bodyPost_ret (v := .tuple #[.agg (natC 0 zP), .bool false]) (res_nat_tmp Tryz.results155 _ _ w.heap.size _ _ _ rfl rfl hN1 zP_len) rfl ⟨rfl, ?_⟩
  exact hB.grown hg1 (by simp; omega) (by intro k hk; cases hk; exact Nat.le_refl _)

/-! ### The loop of readNat, in plain words -/
/-- After j rounds: the last 6 j digits lie in the first j parts. -/
structure Got (l : List UInt8) (j : Nat) (p : List Int) : Prop where
  len : p.length = 204
  lo : ∀ i, 0 ≤ p.getD i 0
  hi : ∀ i, p.getD i 0 < 1000000
  out : ∀ i, j ≤ i → p.getD i 0 = 0
  val : vb 1000000 p = (dval (l.drop (l.length - 6 * j)) : Int)

theorem getD_set (p : List Int) (j i : Nat) (v : Int) (h : j < p.length) : (p.set j v).getD i 0 = if i = j then v else p.getD i 0 := by
  simp only [List.getD, List.getElem?_set]
  by_cases e : j = i
  · subst e; simp [h]
  · rw [if_neg e, if_neg (fun h => e h.symm)]

theorem Got.zero (l : List UInt8) : Got l 0 zP :=
  ⟨zP_len, fun i => by rw [zP_get]; omega, fun i => by rw [zP_get]; omega, fun i _ => zP_get i, by
    rw [vb_zero _ _ zP_get]; simp [dval]⟩

theorem dval_le_part {l : List UInt8} (h : l.all isDig = true) (hl : l.length ≤ 6) : (dval l : Int) < 1000000 := by
  have h1 := dval_lt l h
  have : 10 ^ l.length ≤ 10 ^ 6 := Nat.pow_le_pow_right (by omega) hl
  omega

theorem all_sub {l : List UInt8} (h : l.all isDig = true) (f e : Nat) : ((l.take e).drop f).all isDig = true := by
  rw [List.all_eq_true] at *
  intro x hx
  exact h x (List.mem_of_mem_take (List.mem_of_mem_drop hx))

theorem Got.step {l : List UInt8} {j : Nat} {p : List Int} (h : Got l j p) (hl : l.all isDig = true) (hj : j < 204) (he : 6 * j < l.length) :
    Got l (j + 1) (p.set j (dval ((l.take (l.length - 6 * j)).drop (l.length - 6 * (j + 1))))) := by
  have hd := all_sub hl (l.length - 6 * (j + 1)) (l.length - 6 * j)
  have hb := dval_le_part hd (by simp; omega)
  refine ⟨by simp [h.len], fun i => ?_, fun i => ?_, fun i hi => ?_, ?_⟩
  · rw [getD_set _ _ _ _ (by rw [h.len]; exact hj)]; split
    · omega
    · exact h.lo i
  · rw [getD_set _ _ _ _ (by rw [h.len]; exact hj)]; split
    · exact hb
    · exact h.hi i
  · rw [getD_set _ _ _ _ (by rw [h.len]; exact hj), if_neg (by omega)]; exact h.out i (by omega)
  · rw [vb_set _ _ _ _ (by rw [h.len]; exact hj), h.val, h.out j (Nat.le_refl _)]
    have e1 : l.drop (l.length - 6 * (j + 1)) = (l.take (l.length - 6 * j)).drop (l.length - 6 * (j + 1)) ++ l.drop (l.length - 6 * j) := by
      conv => lhs; rw [← List.take_append_drop (l.length - 6 * j) l]
      rw [List.drop_append_of_le_length (by simp; omega)]
      simp
    rw [e1, dval_append]
    have e2 : (l.drop (l.length - 6 * j)).length = 6 * j := by simp; omega
    rw [e2]
    have e3 : (1000000 : Int) ^ j = ((10 ^ (6 * j) : Nat) : Int) := by
      rw [Nat.pow_mul]; simp
    rw [e3]
    simp only [Int.natCast_add, Int.natCast_mul, Int.sub_zero]
    rw [Int.mul_comm]; omega

/-- What an inner round adds to a part. -/
theorem part_step (l : List UInt8) (f a : Nat) (h : f ≤ a) (ha : a < l.length) (hd : l.all isDig = true) :
    (dval ((l.take (a + 1)).drop f) : Int) = dval ((l.take a).drop f) * 10 + (((l[a].toNat : Nat) : Int) - 48) := by
  rw [List.take_succ_eq_append_getElem ha, List.drop_append_of_le_length (by simp; omega), dval_snoc]
  have := isDig_bd (List.all_eq_true.1 hd l[a] (List.getElem_mem ha))
  unfold dv; omega
theorem part_none (l : List UInt8) (f : Nat) : dval ((l.take f).drop f) = 0 := by
  rw [List.drop_take]; simp [dval]

theorem set_same (p : List Int) (j : Nat) (h : p.getD j 0 = 0) : p.set j 0 = p := by
  apply List.ext_getElem (by simp)
  intro i h1 h2
  rw [List.getElem_set]; split
  · rename_i e; subst e; simp [List.getD, h2] at h; exact h.symm
  · rfl

theorem r0 (w : World) {b : Option Nat} : w.grownBy w b := ⟨rfl, rfl, rfl, Nat.le_refl _, fun _ _ _ => rfl⟩

set_option maxHeartbeats 1000000 in
set_option maxRecDepth 100000 in
theorem readNat_got (s : ByteArray) (w : World) (hs : s.size ≤ maxLen) (hg : goodB s.data.toList = true) :
    Calls Tryz.prog 155 #[.string s] w fun e w' => ∃ (k : Nat) (p : List Int), e = .returned (.tuple #[.agg (natC (trimTo p k) p), .bool true]) ∧ k ≤ 100 ∧ s.size ≤ 6 * k ∧ Got s.data.toList k p ∧ Below w.heap.size w w' := by
  have hz := zero_nat.1
  have HG : Hid (goodB s.data.toList = true) := hg
  have A := (NatAt.new w 0 zP).old (.cells (natC 0 zP) 83)
  have B := NatAt.new (w.alloc (.cells (natC 0 zP) 83)) 0 zP
  have hB : Below w.heap.size w ((w.alloc (.cells (natC 0 zP) 83)).alloc (.cells (natC 0 zP) 83)) := ((Below.refl _ _).alloc (Nat.le_refl _) _).alloc (by simp) _
  simp only [World.size_alloc] at B
  have hlen : s.data.toList.length = s.size := by simp
  have hsz : s.size ≤ 600 := by have := good_len hg; omega
  have hall : Hid (s.data.toList.all isDig = true) := canon_all (good_canon hg)
  have HL : Hid (s.data.toList.length = s.size) := hlen
  clear hg hlen
  go_enter Tryz.func155, Tryz.ntmps155
  go_wp2_with fail
  refine (implGood_any s _ hs).mono ?_
  rintro e w' ⟨rfl, rfl⟩
  rw [HG.out]
  go_wp2_with fail
  go_loopg [5] 100 (fun g x wr => ∃ (j : Nat) (p : List Int), g = 100 - j ∧ j ≤ 100 ∧ 6 * j < s.size + 6 ∧ x = .int .i64 ((s.size : Int) - 6 * (j : Int)) ∧ NatAt wr (w.heap.size + 1) j p ∧ NatAt wr w.heap.size 0 zP ∧ Got s.data.toList j p ∧ Below w.heap.size w wr)
  case atStart => exact ⟨0, zP, rfl, by omega, by omega, by simp, B, A, Got.zero _, hB⟩
  case round =>
    obtain ⟨j, p, rfl, hj, hjs, rfl, hN, hR, hgot, hW⟩ := hrel
    clear A B hB
    have h0 := hN.c0
    have hp := hgot.len
    have GG : Hid (Got s.data.toList j p) := hgot
    clear hgot
    by_cases hend : (0 : Int) < (s.size : Int) - 6 * (j : Int)
    · have hj100 : j < 100 := by omega
      obtain ⟨e, he⟩ : ∃ e : Nat, e = s.size - 6 * j := ⟨_, rfl⟩
      obtain ⟨f, hf⟩ : ∃ f : Nat, f = s.size - 6 * (j + 1) := ⟨_, rfl⟩
      have hee : (s.size : Int) - 6 * (j : Int) = (e : Int) := by omega
      have hfe : f < e := by omega
      have hes : e ≤ s.size := by omega
      have hmx : max ((e : Int) - 6) 0 = (f : Int) := by omega
      have HEF : Hid (e = s.size - 6 * j ∧ f = s.size - 6 * (j + 1)) := ⟨he, hf⟩
      rw [hee] at hend ⊢
      clear he hf hee
      go_wp2_with fail
      all_goals
        go_loopg [6] (e - f) (fun g y wq => ∃ a : Nat, g = e - a ∧ f ≤ a ∧ a ≤ e ∧ y = .int .i64 (a : Int) ∧ NatAt wq (w.heap.size + 1) j (p.set j (dval ((s.data.toList.take a).drop f))) ∧ NatAt wq w.heap.size 0 zP ∧ Below w.heap.size w wq)
        case atStart =>
          refine ⟨f, rfl, Nat.le_refl _, by omega, ?_, ?_, hR, hW⟩
          · go_num
          · rw [part_none]; show NatAt wr _ _ (p.set j 0); rw [set_same _ _ (GG.out.out j (Nat.le_refl _))]; exact hN
        case round =>
          obtain ⟨a, rfl, hfa, hae, rfl, hN1, hR1, hW1⟩ := hrel
          clear hN hR hW h0 hmx hz
          obtain ⟨v, hv⟩ : ∃ v : Int, v = (dval ((s.data.toList.take a).drop f) : Int) := ⟨_, rfl⟩
          rw [← hv] at hN1
          have hv0 : 0 ≤ v := by omega
          have HV : Hid (v = (dval ((s.data.toList.take a).drop f) : Int)) := hv
          clear hv
          have c0 := hN1.c0
          have hl1 : (p.set j v).length = 204 := by rw [List.length_set]; exact hp
          have c1 := hN1.cs j (by omega)
          rw [getD_set _ _ _ _ (by omega), if_pos rfl] at c1
          have hfr := hN1.fr (1 + j)
          have hj1 : (j : Int) < 204 := by omega
          have hj0 : (0 : Int) ≤ (j : Int) := by omega
          by_cases hlt : (a : Int) < (e : Int)
          · have ha : (a : Int) < (s.size : Int) := by omega
            have ha' : a < s.size := by omega
            have hstep : Hid ((dval ((s.data.toList.take (a + 1)).drop f) : Int) = v * 10 + (((s[a]'ha').toNat : Int) - 48)) := by
              have hL := HL.out
              have := part_step s.data.toList f a hfa (by omega) hall.out
              unfold Hid; rw [this, HV.out]; rfl
            have hdig : 48 ≤ (s[a]'ha').toNat ∧ (s[a]'ha').toNat ≤ 57 := by
              have hL := HL.out
              have := isDig_bd (List.all_eq_true.1 hall.out (s.data.toList[a]'(by omega)) (List.getElem_mem _))
              exact this
            have hd0 : (48 : Int) ≤ ((s[a]'ha').toNat : Int) := by omega
            have hd1 : ((s[a]'ha').toNat : Int) ≤ 57 := by omega
            have hv1 : v < 1000000 := by
              have hL := HL.out
              rw [HV.out]; refine dval_le_part (all_sub hall.out f a) ?_
              have := HEF.out
              simp; omega
            clear hdig
            go_wp2_with fail
            refine wp_region_still_tail 15 (by kernel_rfl) (by kernel_rfl) ?_
            simp only [List.take_succ_cons, List.take_zero, List.drop_succ_cons, List.drop_zero]
            repeat still_step
            still_call (digitOf_dig _ _ hd0 hd1)
            repeat still_step
            refine wpStill_nil ?_
            go_wp2
            go_roundg (e - (a + 1))
            case measure => omega
            case rel =>
              refine ⟨a + 1, rfl, by omega, by omega, ?_, ?_, ?_, ?_⟩
              · go_num
              · rw [hstep.out]
                have h1 : NatAt wr.drew (w.heap.size + 1) j (p.set j v) := hN1
                have h2 := h1.setS j (v * 10 + (((s[a]'ha').toNat : Int) - 48))
                rw [List.set_set] at h2
                exact h2
              · exact hR1.grown (grownBy_set (w := wr) (wr := wr.drew) ⟨rfl, rfl, rfl, Nat.le_refl _, fun _ _ _ => rfl⟩ _ _) (by simp)
              · exact (hW1.drew).setCell (by simp) _
          · have hfr0 := hN1.fr 0
            have hae' : a = e := by omega
            go_wp2_with fail
            go_roundg (100 - (j + 1))
            case measure => omega
            case rel =>
              have hL := HL.out
              obtain ⟨he1, he2⟩ := HEF.out
              have hst := GG.out.step hall.out (by omega) (by omega)
              rw [hL, ← he1, ← he2, ← hae', ← HV.out] at hst
              refine ⟨j + 1, p.set j v, rfl, by omega, by omega, ?_, ?_, ?_, hst, ?_⟩
              · go_num
              · have := hN1.set0 ((j : Int) + 1)
                exact this
              · exact hR1.grown (grownBy_set (r0 wr) _ _) (by simp)
              · exact hW1.setCell (by simp) _
    · go_wp2_with fail
      refine (trim_any (w.heap.size + 1) j p _ hp (by omega) hN).mono ?_
      rintro e w2 ⟨rfl, hN2, hg2, hs2⟩
      have hR2 := hR.grown hg2 (by simp)
      have hW2 : Below w.heap.size w w2 := hW.grown hg2 (by have := hW.size; omega) (by intro k hk; cases hk; omega)
      have hlt := hN2.lt
      clear hN hR hW hg2 hs2 h0
      go_wp2_with (first | (refine load_nat rfl _ rfl (w.heap.size + 1) rfl _ p hN2 hp ?_) | (refine store_nat rfl _ _ rfl rfl w.heap.size _ p rfl rfl 0 zP hR2 zP_len hp ?_; intro w3 hN3 hg3 hs3))
      refine bodyPost_ret (v := .tuple #[.agg (natC (trimTo p j) p), .bool true]) (res_nat_tmp Tryz.results155 _ _ w.heap.size _ _ _ rfl rfl hN3 hp) rfl ⟨j, p, rfl, hj, by omega, GG.out, ?_⟩
      exact hW2.grown hg3 (by have := hW2.size; omega) (by intro k hk; cases hk; omega)

theorem trimTo_le (p : List Int) (k : Nat) : trimTo p k ≤ k := by
  induction k with
  | zero => exact Nat.le_refl _
  | succ k ih => unfold trimTo; split <;> omega
theorem trimTo_out (p : List Int) (k : Nat) (h : ∀ i, k ≤ i → p.getD i 0 = 0) : ∀ i, trimTo p k ≤ i → p.getD i 0 = 0 := by
  induction k with
  | zero => intro i _; exact h i (Nat.zero_le _)
  | succ k ih =>
    unfold trimTo; split
    · rename_i hz
      exact ih (fun i hi => by
        by_cases e : i = k
        · rw [e]; exact hz
        · exact h i (by omega))
    · exact h
theorem trimTo_top (p : List Int) (k : Nat) : 0 < trimTo p k → p.getD (trimTo p k - 1) 0 ≠ 0 := by
  induction k with
  | zero => intro h; simp [trimTo] at h
  | succ k ih =>
    unfold trimTo; split
    · exact ih
    · rename_i hz; intro _; simpa using hz

/-- Parts within their bounds, trimmed, are a number's. -/
theorem Rep.mk' {n k : Nat} {p : List Int} (hl : p.length = 204) (hk : k ≤ 204) (lo : ∀ i, 0 ≤ p.getD i 0) (hi : ∀ i, p.getD i 0 < 1000000) (out : ∀ i, k ≤ i → p.getD i 0 = 0) (hv : vb 1000000 p = (n : Int)) : Rep n (trimTo p k) p :=
  ⟨hl, Nat.le_trans (trimTo_le p k) hk, lo, hi, trimTo_out p k out, trimTo_top p k, hv⟩

theorem readNat_yes (s : ByteArray) (w : World) (hs : s.size ≤ maxLen) (hg : goodB s.data.toList = true) :
    Calls Tryz.prog 155 #[.string s] w fun e w' => ∃ (k : Nat) (p : List Int), e = .returned (.tuple #[.agg (natC k p), .bool true]) ∧ Rep (dval s.data.toList) k p ∧ Below w.heap.size w w' := by
  refine (readNat_got s w hs hg).mono ?_
  rintro e w' ⟨k, p, rfl, hk, hsz, hG, hW⟩
  refine ⟨trimTo p k, p, rfl, Rep.mk' hG.len (by omega) hG.lo hG.hi hG.out ?_, hW⟩
  rw [hG.val]
  have : s.data.toList.length - 6 * k = 0 := by simp; omega
  rw [this, List.drop_zero]

/-- What readNat answers, in one word. -/
def Read (s : ByteArray) (k : Nat) (p : List Int) (ok : Bool) : Prop := (goodB s.data.toList = true ∧ ok = true ∧ Rep (dval s.data.toList) k p) ∨ (goodB s.data.toList = false ∧ ok = false ∧ k = 0 ∧ p = zP)

theorem Read.len {s : ByteArray} {k : Nat} {p : List Int} {ok : Bool} (h : Read s k p ok) : p.length = 204 := by
  rcases h with ⟨_, _, h⟩ | ⟨_, _, _, rfl⟩
  · exact h.len
  · exact zP_len
theorem Read.ok {s : ByteArray} {k : Nat} {p : List Int} {ok : Bool} (h : Read s k p ok) : ok = goodB s.data.toList := by
  rcases h with ⟨h1, h2, h⟩ | ⟨h1, h2, _⟩ <;> rw [h1, h2]

theorem Read.rep {s : ByteArray} {k : Nat} {p : List Int} {ok : Bool} (h : Read s k p ok) (hg : goodB s.data.toList = true) : Rep (dval s.data.toList) k p := by
  rcases h with ⟨_, _, h⟩ | ⟨h, _⟩
  · exact h
  · rw [hg] at h; cases h

theorem readNat_any (s : ByteArray) (w : World) (hs : s.size ≤ maxLen) :
    Calls Tryz.prog 155 #[.string s] w fun e w' => ∃ (k : Nat) (p : List Int) (ok : Bool), e = .returned (.tuple #[.agg (natC k p), .bool ok]) ∧ Read s k p ok ∧ Below w.heap.size w w' := by
  cases hg : goodB s.data.toList with
  | true =>
    refine (readNat_yes s w hs hg).mono ?_
    rintro e w' ⟨k, p, rfl, hR, hW⟩
    exact ⟨k, p, true, rfl, .inl ⟨hg, rfl, hR⟩, hW⟩
  | false =>
    refine (readNat_no s w hs hg).mono ?_
    rintro e w' ⟨rfl, hW⟩
    exact ⟨0, zP, false, rfl, .inr ⟨hg, rfl, rfl, rfl⟩, hW⟩

end Go.Proofs.YtjgpjafndaikcaaGreatDoor
