/-
  The texts Read, Carry, Plus, DivMath, DivSmall, Guess, LehmerMath, one behind the other.
-/
import Derived.Test.YtmfpnbmfcoahbaaDoorParts
import Derived.Test.YtmfpnbmfcoahbaaDoorPkMath
import Derived.StillTailTactics
import Derived.Laws.ResultCell
import Derived.ScopeJumps
import Derived.WalkMore
import Derived.Deep.WholeRow

/-
  What impl.digitOf, readNat and readNats answer: a natural number's text as parts.
-/
namespace Go.Proofs.YtmfpnbmfcoahbaaDoor
open Go.RowKit
set_option linter.unusedVariables false

/-- What a digit of any radix is worth. -/
def digI (n : Int) : Int := if 48 ≤ n ∧ n ≤ 57 then n - 48 else if 97 ≤ n ∧ n ≤ 102 then n - 87 else if 65 ≤ n ∧ n ≤ 70 then n - 55 else 16

theorem digitOf_dig (n : Int) (w : World) (h0 : 48 ≤ n) (h1 : n ≤ 57) :
    Calls Tryd.prog 56 #[.int .u8 n] w fun e w' => e = .returned (.int .i64 (n - 48)) ∧ w' = w := by
  go_enter Tryd.func56, Tryd.ntmps56
  go_wp2
  go_ret
  exact ⟨rfl, rfl⟩

/-- All parts 0. -/
def zP : List Int := List.replicate 204 0
theorem zP_len : zP.length = 204 := List.length_replicate
theorem zP_get (i : Nat) : zP.getD i 0 = 0 := by
  unfold zP; simp only [List.getD, List.getElem?_replicate]; split <;> rfl

theorem zero_nat : (∀ w, (zeroValue 46).run Tryd.prog w = .ok (.agg (natC 0 zP)) w) ∧ (Tryd.prog.info? 46).map (·.size) = some 205 := zero_of_info (by kernel_rfl)

theorem nat_info (u : Int) (p : List Int) (h : p.length = 204) : (Tryd.prog.info? 46).map (·.size) = some (natC u p).size := by
  rw [zero_nat.2, natC_size, h]

/-- A nat is read whole. -/
theorem load_nat {ops : Array Oper} {rest : List Oper} {o : Oper} {a : Act} {w : World} {Q : Exit → Act → World → Prop} (hgd : o.guard = none) (x : Operand) (ho : o.op = .load 46 x)
    (b : Nat) (hx : a.eval x = .pointer (some ⟨b, 0, none⟩)) (u : Int) (p : List Int) (hN : NatAt w b u p) (hl : p.length = 204)
    (h : wpList Tryd.prog ops Q rest (a.put o.dst (.agg (natC u p))) w) : wpList Tryd.prog ops Q (o :: rest) a w :=
  wpList_load_row hgd 46 x ho b hx 46 (natC u p) (0, 0) _ hN Tryd.underlying46 rfl (nat_info u p hl) h

/-- A nat is written whole. -/
theorem store_nat {ops : Array Oper} {rest : List Oper} {o : Oper} {a : Act} {w : World} {Q : Exit → Act → World → Prop} (hgd : o.guard = none) (x y : Operand) (ho : o.op = .store 46 x y) (hd : o.dst = none)
    (b : Nat) (u : Int) (p : List Int) (hx : a.eval x = .pointer (some ⟨b, 0, none⟩)) (hy : a.eval y = .agg (natC u p)) (u0 : Int) (p0 : List Int) (hN : NatAt w b u0 p0) (h0 : p0.length = 204) (hl : p.length = 204)
    (h : ∀ w', NatAt w' b u p → w.grownBy w' (some b) → w'.heap.size = w.heap.size → wpList Tryd.prog ops Q rest a w') : wpList Tryd.prog ops Q (o :: rest) a w := by
  refine wpList_store_row hgd 46 x y ho b (natC u p) hx hy 46 (natC u0 p0) hN (nat_info u p hl) (by rw [natC_size, natC_size, h0, hl]) (natC_one _ _) ?_
  rw [hd]
  refine h _ (setRow_heap w b _ _ _ _ hN) ⟨rfl, rfl, rfl, by simp, fun k _ hne => ?_⟩ (by simp)
  exact setRow_other w b k _ (by intro e; exact hne (by rw [e]))

theorem res_nat_tmp {fn : Func} {x u : Tmp} (h : fn.results = #[.cell x 46, .tmp u]) (tmps : Array Value) (w : World) (b : Nat) (n : Int) (p : List Int) (v : Value)
    (hp : tmps.getD x undef = .pointer (some ⟨b, 0, none⟩)) (hv : tmps.getD u undef = v) (hN : NatAt w b n p) (hl : p.length = 204) : (results fn tmps).run Tryd.prog w = .ok (.tuple #[.agg (natC n p), v]) w := by
  rw [results_cell_tmp h, hp, hv]
  simp only [asAddr, Sem.run_pure, Result.andThen, run_loadVar_row w b 46 46 (natC n p) (0, 0) _ hN Tryd.underlying46 rfl (nat_info n p hl)]

theorem NatAt.new (w : World) (u : Int) (p : List Int) : NatAt (w.alloc (.cells (natC u p) 46)) w.heap.size u p := heap_alloc_new _ _
theorem NatAt.old {w : World} {b : Nat} {u : Int} {p : List Int} (h : NatAt w b u p) (o : Obj) : NatAt (w.alloc o) b u p := by
  unfold NatAt; rw [Below.heap_alloc _ _ _ h.lt]; exact h
theorem NatAt.grown {w w' : World} {b : Nat} {u : Int} {p : List Int} {r : Option Nat} (h : NatAt w b u p) (hg : w.grownBy w' r) (hr : some b ≠ r) : NatAt w' b u p := by
  unfold NatAt; rw [hg.block b h.lt hr]; exact h
theorem NatAt.below {w w' : World} {b B : Nat} {u : Int} {p : List Int} (h : NatAt w b u p) (hg : Below B w w') (hr : b < B) : NatAt w' b u p := by
  unfold NatAt; rw [hg.block b hr]; exact h

set_option maxHeartbeats 400000 in
theorem readNat_no (s : ByteArray) (w : World) (hs : s.size ≤ maxLen) (hg : goodB s.data.toList = false) :
    Calls Tryd.prog 22 #[.string s] w fun e w' => e = .returned (.tuple #[.agg (natC 0 zP), .bool false]) ∧ Below w.heap.size w w' := by
  have hz := zero_nat.1
  have HG : Hid (goodB s.data.toList = false) := hg
  have A := (NatAt.new w 0 zP).old (.cells (natC 0 zP) 46)
  have B := NatAt.new (w.alloc (.cells (natC 0 zP) 46)) 0 zP
  have hB : Below w.heap.size w ((w.alloc (.cells (natC 0 zP) 46)).alloc (.cells (natC 0 zP) 46)) := ((Below.refl _ _).alloc (Nat.le_refl _) _).alloc (by simp) _
  simp only [World.size_alloc] at B
  clear hg
  go_enter Tryd.func22, Tryd.ntmps22
  go_wp2_with fail
  refine (implGood_any s _ hs).mono ?_
  rintro e w' ⟨rfl, rfl⟩
  rw [HG.out]
  go_wp2_with (first | (refine load_nat rfl _ rfl (w.heap.size + 1) rfl 0 zP B zP_len ?_) | (refine store_nat rfl _ _ rfl rfl w.heap.size 0 zP rfl rfl 0 zP A zP_len zP_len ?_; intro w1 hN1 hg1 hs1))
  refine bodyPost_ret (v := .tuple #[.agg (natC 0 zP), .bool false]) (res_nat_tmp Tryd.results22 _ _ w.heap.size _ _ _ rfl rfl hN1 zP_len) rfl ⟨rfl, ?_⟩
  exact hB.grown hg1 (by simp; omega) (by intro k hk; cases hk; exact Nat.le_refl _)

/-! ### The loop of readNat, in plain words -/
/-- After j rounds: the last 6 j digits lie in the first j parts. -/
structure Got (l : List UInt8) (j : Nat) (p : List Int) : Prop where
  len : p.length = 204
  lo : ∀ i, 0 ≤ p.getD i 0
  hi : ∀ i, p.getD i 0 < 1000000
  out : ∀ i, j ≤ i → p.getD i 0 = 0
  val : vb 1000000 p = (dval (l.drop (l.length - 6 * j)) : Int)

theorem getD_set (p : List Int) (j i : Nat) (v : Int) (h : j < p.length) : (p.set j v).getD i 0 = if i = j then v else p.getD i 0 := by
  simp only [List.getD, List.getElem?_set]
  by_cases e : j = i
  · subst e; simp [h]
  · rw [if_neg e, if_neg (fun h => e h.symm)]

theorem Got.zero (l : List UInt8) : Got l 0 zP :=
  ⟨zP_len, fun i => by rw [zP_get]; omega, fun i => by rw [zP_get]; omega, fun i _ => zP_get i, by
    rw [vb_zero _ _ zP_get]; simp [dval]⟩

theorem dval_le_part {l : List UInt8} (h : l.all isDig = true) (hl : l.length ≤ 6) : (dval l : Int) < 1000000 := by
  have h1 := dval_lt l h
  have : 10 ^ l.length ≤ 10 ^ 6 := Nat.pow_le_pow_right (by omega) hl
  omega

theorem all_sub {l : List UInt8} (h : l.all isDig = true) (f e : Nat) : ((l.take e).drop f).all isDig = true := by
  rw [List.all_eq_true] at *
  intro x hx
  exact h x (List.mem_of_mem_take (List.mem_of_mem_drop hx))

theorem Got.step {l : List UInt8} {j : Nat} {p : List Int} (h : Got l j p) (hl : l.all isDig = true) (hj : j < 204) (he : 6 * j < l.length) :
    Got l (j + 1) (p.set j (dval ((l.take (l.length - 6 * j)).drop (l.length - 6 * (j + 1))))) := by
  have hd := all_sub hl (l.length - 6 * (j + 1)) (l.length - 6 * j)
  have hb := dval_le_part hd (by simp; omega)
  refine ⟨by simp [h.len], fun i => ?_, fun i => ?_, fun i hi => ?_, ?_⟩
  · rw [getD_set _ _ _ _ (by rw [h.len]; exact hj)]; split
    · omega
    · exact h.lo i
  · rw [getD_set _ _ _ _ (by rw [h.len]; exact hj)]; split
    · exact hb
    · exact h.hi i
  · rw [getD_set _ _ _ _ (by rw [h.len]; exact hj), if_neg (by omega)]; exact h.out i (by omega)
  · rw [vb_set _ _ _ _ (by rw [h.len]; exact hj), h.val, h.out j (Nat.le_refl _)]
    have e1 : l.drop (l.length - 6 * (j + 1)) = (l.take (l.length - 6 * j)).drop (l.length - 6 * (j + 1)) ++ l.drop (l.length - 6 * j) := by
      conv => lhs; rw [← List.take_append_drop (l.length - 6 * j) l]
      rw [List.drop_append_of_le_length (by simp; omega)]
      simp
    rw [e1, dval_append]
    have e2 : (l.drop (l.length - 6 * j)).length = 6 * j := by simp; omega
    rw [e2]
    have e3 : (1000000 : Int) ^ j = ((10 ^ (6 * j) : Nat) : Int) := by
      rw [Nat.pow_mul]; simp
    rw [e3]
    simp only [Int.natCast_add, Int.natCast_mul, Int.sub_zero]
    rw [Int.mul_comm]; omega

/-- What an inner round adds to a part. -/
theorem part_step (l : List UInt8) (f a : Nat) (h : f ≤ a) (ha : a < l.length) (hd : l.all isDig = true) :
    (dval ((l.take (a + 1)).drop f) : Int) = dval ((l.take a).drop f) * 10 + (((l[a].toNat : Nat) : Int) - 48) := by
  rw [List.take_succ_eq_append_getElem ha, List.drop_append_of_le_length (by simp; omega), dval_snoc]
  have := isDig_bd (List.all_eq_true.1 hd l[a] (List.getElem_mem ha))
  unfold dv; omega
theorem part_none (l : List UInt8) (f : Nat) : dval ((l.take f).drop f) = 0 := by
  rw [List.drop_take]; simp [dval]

theorem set_same (p : List Int) (j : Nat) (h : p.getD j 0 = 0) : p.set j 0 = p := by
  apply List.ext_getElem (by simp)
  intro i h1 h2
  rw [List.getElem_set]; split
  · rename_i e; subst e; simp [List.getD, h2] at h; exact h.symm
  · rfl

theorem r0 (w : World) {b : Option Nat} : w.grownBy w b := ⟨rfl, rfl, rfl, Nat.le_refl _, fun _ _ _ => rfl⟩

set_option maxHeartbeats 1000000 in
set_option maxRecDepth 100000 in
theorem readNat_got (s : ByteArray) (w : World) (hs : s.size ≤ maxLen) (hg : goodB s.data.toList = true) :
    Calls Tryd.prog 22 #[.string s] w fun e w' => ∃ (k : Nat) (p : List Int), e = .returned (.tuple #[.agg (natC (trimTo p k) p), .bool true]) ∧ k ≤ 100 ∧ s.size ≤ 6 * k ∧ Got s.data.toList k p ∧ Below w.heap.size w w' := by
  have hz := zero_nat.1
  have HG : Hid (goodB s.data.toList = true) := hg
  have A := (NatAt.new w 0 zP).old (.cells (natC 0 zP) 46)
  have B := NatAt.new (w.alloc (.cells (natC 0 zP) 46)) 0 zP
  have hB : Below w.heap.size w ((w.alloc (.cells (natC 0 zP) 46)).alloc (.cells (natC 0 zP) 46)) := ((Below.refl _ _).alloc (Nat.le_refl _) _).alloc (by simp) _
  simp only [World.size_alloc] at B
  have hlen : s.data.toList.length = s.size := by simp
  have hsz : s.size ≤ 600 := by have := good_len hg; omega
  have hall : Hid (s.data.toList.all isDig = true) := canon_all (good_canon hg)
  have HL : Hid (s.data.toList.length = s.size) := hlen
  clear hg hlen
  go_enter Tryd.func22, Tryd.ntmps22
  go_wp2_with fail
  refine (implGood_any s _ hs).mono ?_
  rintro e w' ⟨rfl, rfl⟩
  rw [HG.out]
  go_wp2_with fail
  go_loopg [5] 100 (fun g x wr => ∃ (j : Nat) (p : List Int), g = 100 - j ∧ j ≤ 100 ∧ 6 * j < s.size + 6 ∧ x = .int .i64 ((s.size : Int) - 6 * (j : Int)) ∧ NatAt wr (w.heap.size + 1) j p ∧ NatAt wr w.heap.size 0 zP ∧ Got s.data.toList j p ∧ Below w.heap.size w wr)
  case atStart => exact ⟨0, zP, rfl, by omega, by omega, by simp, B, A, Got.zero _, hB⟩
  case round =>
    obtain ⟨j, p, rfl, hj, hjs, rfl, hN, hR, hgot, hW⟩ := hrel
    clear A B hB
    have h0 := hN.c0
    have hp := hgot.len
    have GG : Hid (Got s.data.toList j p) := hgot
    clear hgot
    by_cases hend : (0 : Int) < (s.size : Int) - 6 * (j : Int)
    · have hj100 : j < 100 := by omega
      obtain ⟨e, he⟩ : ∃ e : Nat, e = s.size - 6 * j := ⟨_, rfl⟩
      obtain ⟨f, hf⟩ : ∃ f : Nat, f = s.size - 6 * (j + 1) := ⟨_, rfl⟩
      have hee : (s.size : Int) - 6 * (j : Int) = (e : Int) := by omega
      have hfe : f < e := by omega
      have hes : e ≤ s.size := by omega
      have hmx : max ((e : Int) - 6) 0 = (f : Int) := by omega
      have HEF : Hid (e = s.size - 6 * j ∧ f = s.size - 6 * (j + 1)) := ⟨he, hf⟩
      rw [hee] at hend ⊢
      clear he hf hee
      go_wp2_with fail
      all_goals
        go_loopg [6] (e - f) (fun g y wq => ∃ a : Nat, g = e - a ∧ f ≤ a ∧ a ≤ e ∧ y = .int .i64 (a : Int) ∧ NatAt wq (w.heap.size + 1) j (p.set j (dval ((s.data.toList.take a).drop f))) ∧ NatAt wq w.heap.size 0 zP ∧ Below w.heap.size w wq)
        case atStart =>
          refine ⟨f, rfl, Nat.le_refl _, by omega, ?_, ?_, hR, hW⟩
          · go_num
          · rw [part_none]; show NatAt wr _ _ (p.set j 0); rw [set_same _ _ (GG.out.out j (Nat.le_refl _))]; exact hN
        case round =>
          obtain ⟨a, rfl, hfa, hae, rfl, hN1, hR1, hW1⟩ := hrel
          clear hN hR hW h0 hmx hz
          obtain ⟨v, hv⟩ : ∃ v : Int, v = (dval ((s.data.toList.take a).drop f) : Int) := ⟨_, rfl⟩
          rw [← hv] at hN1
          have hv0 : 0 ≤ v := by omega
          have HV : Hid (v = (dval ((s.data.toList.take a).drop f) : Int)) := hv
          clear hv
          have c0 := hN1.c0
          have hl1 : (p.set j v).length = 204 := by rw [List.length_set]; exact hp
          have c1 := hN1.cs j (by omega)
          rw [getD_set _ _ _ _ (by omega), if_pos rfl] at c1
          have hfr := hN1.fr (1 + j)
          have hj1 : (j : Int) < 204 := by omega
          have hj0 : (0 : Int) ≤ (j : Int) := by omega
          by_cases hlt : (a : Int) < (e : Int)
          · have ha : (a : Int) < (s.size : Int) := by omega
            have ha' : a < s.size := by omega
            have hstep : Hid ((dval ((s.data.toList.take (a + 1)).drop f) : Int) = v * 10 + (((s[a]'ha').toNat : Int) - 48)) := by
              have hL := HL.out
              have := part_step s.data.toList f a hfa (by omega) hall.out
              unfold Hid; rw [this, HV.out]; rfl
            have hdig : 48 ≤ (s[a]'ha').toNat ∧ (s[a]'ha').toNat ≤ 57 := by
              have hL := HL.out
              have := isDig_bd (List.all_eq_true.1 hall.out (s.data.toList[a]'(by omega)) (List.getElem_mem _))
              exact this
            have hd0 : (48 : Int) ≤ ((s[a]'ha').toNat : Int) := by omega
            have hd1 : ((s[a]'ha').toNat : Int) ≤ 57 := by omega
            have hv1 : v < 1000000 := by
              have hL := HL.out
              rw [HV.out]; refine dval_le_part (all_sub hall.out f a) ?_
              have := HEF.out
              simp; omega
            clear hdig
            go_wp2_with fail
            refine wp_region_still_tail 15 (by kernel_rfl) (by kernel_rfl) ?_
            simp only [List.take_succ_cons, List.take_zero, List.drop_succ_cons, List.drop_zero]
            repeat still_step
            still_call (digitOf_dig _ _ hd0 hd1)
            repeat still_step
            refine wpStill_nil ?_
            go_wp2
            go_roundg (e - (a + 1))
            case measure => omega
            case rel =>
              refine ⟨a + 1, rfl, by omega, by omega, ?_, ?_, ?_, ?_⟩
              · go_num
              · rw [hstep.out]
                have h1 : NatAt wr.drew (w.heap.size + 1) j (p.set j v) := hN1
                have h2 := h1.setS j (v * 10 + (((s[a]'ha').toNat : Int) - 48))
                rw [List.set_set] at h2
                exact h2
              · exact hR1.grown (grownBy_set (w := wr) (wr := wr.drew) ⟨rfl, rfl, rfl, Nat.le_refl _, fun _ _ _ => rfl⟩ _ _) (by simp)
              · exact (hW1.drew).setCell (by simp) _
          · have hfr0 := hN1.fr 0
            have hae' : a = e := by omega
            go_wp2_with fail
            go_roundg (100 - (j + 1))
            case measure => omega
            case rel =>
              have hL := HL.out
              obtain ⟨he1, he2⟩ := HEF.out
              have hst := GG.out.step hall.out (by omega) (by omega)
              rw [hL, ← he1, ← he2, ← hae', ← HV.out] at hst
              refine ⟨j + 1, p.set j v, rfl, by omega, by omega, ?_, ?_, ?_, hst, ?_⟩
              · go_num
              · have := hN1.set0 ((j : Int) + 1)
                exact this
              · exact hR1.grown (grownBy_set (r0 wr) _ _) (by simp)
              · exact hW1.setCell (by simp) _
    · go_wp2_with fail
      refine (trim_any (w.heap.size + 1) j p _ hp (by omega) hN).mono ?_
      rintro e w2 ⟨rfl, hN2, hg2, hs2⟩
      have hR2 := hR.grown hg2 (by simp)
      have hW2 : Below w.heap.size w w2 := hW.grown hg2 (by have := hW.size; omega) (by intro k hk; cases hk; omega)
      have hlt := hN2.lt
      clear hN hR hW hg2 hs2 h0
      go_wp2_with (first | (refine load_nat rfl _ rfl (w.heap.size + 1) rfl _ p hN2 hp ?_) | (refine store_nat rfl _ _ rfl rfl w.heap.size _ p rfl rfl 0 zP hR2 zP_len hp ?_; intro w3 hN3 hg3 hs3))
      refine bodyPost_ret (v := .tuple #[.agg (natC (trimTo p j) p), .bool true]) (res_nat_tmp Tryd.results22 _ _ w.heap.size _ _ _ rfl rfl hN3 hp) rfl ⟨j, p, rfl, hj, by omega, GG.out, ?_⟩
      exact hW2.grown hg3 (by have := hW2.size; omega) (by intro k hk; cases hk; omega)

theorem trimTo_le (p : List Int) (k : Nat) : trimTo p k ≤ k := by
  induction k with
  | zero => exact Nat.le_refl _
  | succ k ih => unfold trimTo; split <;> omega
theorem trimTo_out (p : List Int) (k : Nat) (h : ∀ i, k ≤ i → p.getD i 0 = 0) : ∀ i, trimTo p k ≤ i → p.getD i 0 = 0 := by
  induction k with
  | zero => intro i _; exact h i (Nat.zero_le _)
  | succ k ih =>
    unfold trimTo; split
    · rename_i hz
      exact ih (fun i hi => by
        by_cases e : i = k
        · rw [e]; exact hz
        · exact h i (by omega))
    · exact h
theorem trimTo_top (p : List Int) (k : Nat) : 0 < trimTo p k → p.getD (trimTo p k - 1) 0 ≠ 0 := by
  induction k with
  | zero => intro h; simp [trimTo] at h
  | succ k ih =>
    unfold trimTo; split
    · exact ih
    · rename_i hz; intro _; simpa using hz

/-- Parts within their bounds, trimmed, are a number's. -/
theorem Rep.mk' {n k : Nat} {p : List Int} (hl : p.length = 204) (hk : k ≤ 204) (lo : ∀ i, 0 ≤ p.getD i 0) (hi : ∀ i, p.getD i 0 < 1000000) (out : ∀ i, k ≤ i → p.getD i 0 = 0) (hv : vb 1000000 p = (n : Int)) : Rep n (trimTo p k) p :=
  ⟨hl, Nat.le_trans (trimTo_le p k) hk, lo, hi, trimTo_out p k out, trimTo_top p k, hv⟩

theorem readNat_yes (s : ByteArray) (w : World) (hs : s.size ≤ maxLen) (hg : goodB s.data.toList = true) :
    Calls Tryd.prog 22 #[.string s] w fun e w' => ∃ (k : Nat) (p : List Int), e = .returned (.tuple #[.agg (natC k p), .bool true]) ∧ Rep (dval s.data.toList) k p ∧ Below w.heap.size w w' := by
  refine (readNat_got s w hs hg).mono ?_
  rintro e w' ⟨k, p, rfl, hk, hsz, hG, hW⟩
  refine ⟨trimTo p k, p, rfl, Rep.mk' hG.len (by omega) hG.lo hG.hi hG.out ?_, hW⟩
  rw [hG.val]
  have : s.data.toList.length - 6 * k = 0 := by simp; omega
  rw [this, List.drop_zero]

/-- What readNat answers, in one word. -/
def Read (s : ByteArray) (k : Nat) (p : List Int) (ok : Bool) : Prop := (goodB s.data.toList = true ∧ ok = true ∧ Rep (dval s.data.toList) k p) ∨ (goodB s.data.toList = false ∧ ok = false ∧ k = 0 ∧ p = zP)

theorem Read.len {s : ByteArray} {k : Nat} {p : List Int} {ok : Bool} (h : Read s k p ok) : p.length = 204 := by
  rcases h with ⟨_, _, h⟩ | ⟨_, _, _, rfl⟩
  · exact h.len
  · exact zP_len
theorem Read.ok {s : ByteArray} {k : Nat} {p : List Int} {ok : Bool} (h : Read s k p ok) : ok = goodB s.data.toList := by
  rcases h with ⟨h1, h2, h⟩ | ⟨h1, h2, _⟩ <;> rw [h1, h2]

theorem Read.rep {s : ByteArray} {k : Nat} {p : List Int} {ok : Bool} (h : Read s k p ok) (hg : goodB s.data.toList = true) : Rep (dval s.data.toList) k p := by
  rcases h with ⟨_, _, h⟩ | ⟨h, _⟩
  · exact h
  · rw [hg] at h; cases h

theorem readNat_any (s : ByteArray) (w : World) (hs : s.size ≤ maxLen) :
    Calls Tryd.prog 22 #[.string s] w fun e w' => ∃ (k : Nat) (p : List Int) (ok : Bool), e = .returned (.tuple #[.agg (natC k p), .bool ok]) ∧ Read s k p ok ∧ Below w.heap.size w w' := by
  cases hg : goodB s.data.toList with
  | true =>
    refine (readNat_yes s w hs hg).mono ?_
    rintro e w' ⟨k, p, rfl, hR, hW⟩
    exact ⟨k, p, true, rfl, .inl ⟨hg, rfl, hR⟩, hW⟩
  | false =>
    refine (readNat_no s w hs hg).mono ?_
    rintro e w' ⟨rfl, hW⟩
    exact ⟨0, zP, false, rfl, .inr ⟨hg, rfl, rfl, rfl⟩, hW⟩

end Go.Proofs.YtmfpnbmfcoahbaaDoor

/-
  What carry of impl's nats does: every part within its bounds, the same number; or, below 0, false.
-/
namespace Go.Proofs.YtmfpnbmfcoahbaaDoor
open Go.RowKit
set_option linter.unusedVariables false

theorem hide {p : Prop} (h : p) : Hid p := h
theorem grownBy_trans {a b c : World} {r : Option Nat} (h : a.grownBy b r) (g : b.grownBy c r) : a.grownBy c r :=
  ⟨g.os.trans h.os, g.tape.trans h.tape, g.output.trans h.output, Nat.le_trans h.size g.size, fun k hk hn => (g.block k (Nat.lt_of_lt_of_le hk h.size) hn).trans (h.block k hk hn)⟩

theorem grownBy_drew {w wr : World} {b : Option Nat} (h : w.grownBy wr b) : w.grownBy wr.drew b := ⟨h.os, h.tape, h.output, h.size, h.block⟩

/-- A scope in which the run jumps back to one label, where what holds at every jump holds at the label's first meeting, too. -/
theorem scope_jumps_at {P : Program} {a : Act} {w : World} {Q : Exit → Act → World → Prop} {c rest : Code} (l : Nat) (J : Act → World → Prop) (μ : Act → World → Nat) (hf : findLabel c l = some (Code.skip.seq rest))
    (first : (∀ a w, J a w → rest.wp P (Exit.jump l J Q) a w) → c.wp P (Exit.jump l J Q) a w)
    (pass : ∀ a w, J a w → rest.wp P (Exit.jump l (fun a' w' => J a' w' ∧ μ a' w' < μ a w) Q) a w) : (Code.scope c).wp P Q a w := by
  refine wp_scope_jumps l J μ hf (first fun a w h => Code.wp_mono ?_ (pass a w h)) (fun a w h => wp_seq (wp_skip (pass a w h)))
  intro e a' w' he
  cases e <;> first | exact he | exact ⟨he.1, he.2.1⟩

/-- What parts may be ahead of carry. -/
def CarryBd (p0 : List Int) : Prop := ∀ i, -999999999999999999 ≤ p0.getD i 0 ∧ p0.getD i 0 ≤ 999999999999999999 ∧ (0 < i → -500000000000000000 ≤ p0.getD i 0 ∧ p0.getD i 0 ≤ 500000000000000000)

/-- Where carry stands: the parts below t are within their bounds, the others as they were, o is over. -/
structure Carry (p0 : List Int) (k t : Nat) (o : Int) (p : List Int) : Prop where
  len : p.length = 204
  lo : ∀ i, i < t → 0 ≤ p.getD i 0 ∧ p.getD i 0 < 1000000
  rest : ∀ i, t ≤ i → p.getD i 0 = p0.getD i 0
  val : vb 1000000 p + 1000000 ^ t * o = vb 1000000 p0
  bd : (t ≤ k ∧ -1000000000000 ≤ o ∧ o ≤ 999999999999 ∧ (t = 0 → o = 0)) ∨ (t = k + 1 ∧ 0 ≤ o ∧ o ≤ 999999) ∨ (t = k + 2 ∧ o = 0)

theorem Carry.start (p0 : List Int) (k : Nat) (hl : p0.length = 204) : Carry p0 k 0 0 p0 :=
  ⟨hl, fun i hi => by omega, fun _ _ => rfl, by simp, .inl ⟨by omega, by omega, by omega, fun _ => rfl⟩⟩

/-- One round: q, r: what is over and what stays of o and the part. -/
theorem Carry.step {p0 p : List Int} {k t : Nat} {o q r : Int} (h : Carry p0 k t o p) (hk : k + 2 ≤ 204) (hgo : t < k ∨ 0 < o) (hbd : CarryBd p0) (hout : ∀ i, k ≤ i → p0.getD i 0 = 0)
    (hx : o + p.getD t 0 = 1000000 * q + r) (r0 : 0 ≤ r) (r1 : r < 1000000) : Carry p0 k (t + 1) q (p.set t r) := by
  have ht : t < 204 := by rcases h.bd with b | b | b <;> omega
  have hr := h.rest t (Nat.le_refl _)
  obtain ⟨hb1, hb2, hb3⟩ := hbd t
  refine ⟨by simp [h.len], fun i hi => ?_, fun i hi => ?_, ?_, ?_⟩
  · rw [getD_set _ _ _ _ (by rw [h.len]; exact ht)]; split
    · exact ⟨r0, r1⟩
    · exact h.lo i (by omega)
  · rw [getD_set _ _ _ _ (by rw [h.len]; exact ht), if_neg (by omega)]; exact h.rest i (by omega)
  · rw [vb_set _ _ _ _ (by rw [h.len]; exact ht), ← h.val, Int.pow_succ, Int.mul_assoc]
    have : (1000000 : Int) ^ t * (r - p.getD t 0) + 1000000 ^ t * (1000000 * q) = 1000000 ^ t * o := by
      rw [← Int.mul_add]; congr 1; omega
    omega
  · rcases h.bd with ⟨b1, b2, b3⟩ | ⟨b1, b2, b3⟩ | ⟨b1, b2⟩
    · by_cases e : t < k
      · left
        by_cases e0 : t = 0
        · have := b3.2 e0
          omega
        · have := hb3 (by omega)
          omega
      · have := hout t (by omega)
        right; left
        by_cases e0 : t = 0
        · have := b3.2 e0
          omega
        · omega
    · have := hout t (by omega)
      right; right; omega
    · omega

/-- The end. -/
theorem Carry.end {p0 p : List Int} {k t : Nat} {o : Int} (h : Carry p0 k t o p) (hk : k + 2 ≤ 204) (h1 : ¬ t < k) (h2 : ¬ 0 < o) (hout : ∀ i, k ≤ i → p0.getD i 0 = 0) :
    (o = 0 ∧ ∃ n : Nat, vb 1000000 p0 = (n : Int) ∧ Rep n (trimTo p t) p) ∨ (o < 0 ∧ vb 1000000 p0 < 0) := by
  have lo : ∀ i, 0 ≤ p.getD i 0 := fun i => by
    by_cases e : i < t
    · exact (h.lo i e).1
    · rw [h.rest i (by omega), hout i (by omega)]; omega
  have hi : ∀ i, p.getD i 0 < 1000000 := fun i => by
    by_cases e : i < t
    · exact (h.lo i e).2
    · rw [h.rest i (by omega), hout i (by omega)]; omega
  have out : ∀ i, t ≤ i → p.getD i 0 = 0 := fun i e => by rw [h.rest i e, hout i (by omega)]
  have hv := vb_lt 1000000 (by omega) p t lo hi out
  have hval := h.val
  by_cases e : o = 0
  · left
    subst e
    refine ⟨rfl, (vb 1000000 p0).toNat, by omega, Rep.mk' h.len (by rcases h.bd with b | b | b <;> omega) lo hi out (by omega)⟩
  · right
    have hm : (1000000 : Int) ^ t * o ≤ 1000000 ^ t * (-1) := Int.mul_le_mul_of_nonneg_left (by omega) (by omega)
    omega

def CarryAt (b k : Nat) (p0 : List Int) (w : World) (a' : Act) (w' : World) : Prop :=
  ∃ (t : Nat) (o : Int) (p : List Int) (u5 u6 u7 u8 u9 u10 u11 u12 u13 u14 u15 u16 u17 u18 u19 u20 u21 u22 u23 u24 u25 u26 u27 u28 u29 u30 u31 u32 u33 u34 u35 u36 u37 u38 u39 u40 u41 u42 u43 u44 u45 u46 u47 u48 u49 u50 u51 u52 u53 u54 u55 u56 u57 u58 u59 u60 : Value), a' = { tmps := #[.pointer (some ⟨b, 0, none⟩), undef, .bool false, .int .i64 (t : Int), .int .i64 o, u5, u6, u7, u8, u9, u10, u11, u12, u13, u14, u15, u16, u17, u18, u19, u20, u21, u22, u23, u24, u25, u26, u27, u28, u29, u30, u31, u32, u33, u34, u35, u36, u37, u38, u39, u40, u41, u42, u43, u44, u45, u46, u47, u48, u49, u50, u51, u52, u53, u54, u55, u56, u57, u58, u59, u60], defers := [] } ∧ Carry p0 k t o p ∧ NatAt w' b k p ∧ w.grownBy w' (some b) ∧ w'.heap.size = w.heap.size

set_option maxHeartbeats 1000000 in
set_option maxRecDepth 100000 in
theorem carry_big (b k : Nat) (p0 : List Int) (w : World) (hl : p0.length = 204) (hk : k + 2 ≤ 204) (hN : NatAt w b k p0) (hbd : CarryBd p0) (hout : ∀ i, k ≤ i → p0.getD i 0 = 0) :
    Calls Tryd.prog 61 #[.pointer (some ⟨b, 0, none⟩)] w fun e w' => ∃ (ok : Bool) (j : Nat) (p : List Int), e = .returned (.bool ok) ∧ p.length = 204 ∧ NatAt w' b j p ∧ w.grownBy w' (some b) ∧ w'.heap.size = w.heap.size ∧
      ((ok = true ∧ ∃ n : Nat, vb 1000000 p0 = (n : Int) ∧ Rep n j p) ∨ (ok = false ∧ vb 1000000 p0 < 0)) := by
  have HB : Hid (CarryBd p0) := hbd
  have HO : Hid (∀ i, k ≤ i → p0.getD i 0 = 0) := hout
  clear hbd hout
  go_enter Tryd.func61, Tryd.ntmps61
  go_wp2
  refine scope_jumps_at 0 (CarryAt b k p0 w) (fun a' _ => 206 - (intOf (a'.tmps.getD 3 undef)).toNat) rfl ?_ ?_
  · intro hp
    have HP := hide hp
    clear hp
    go_wp2
    go_step3
    have h1 : CarryAt b k p0 w { tmps := #[.pointer (some ⟨b, 0, none⟩), undef, .bool false, .int .i64 0, .int .i64 0, undef, undef, undef, undef, undef, undef, undef, undef, undef, undef, undef, undef, undef, undef, undef, undef, undef, undef, undef, undef, undef, undef, undef, undef, undef, undef, undef, undef, undef, undef, undef, undef, undef, undef, undef, undef, undef, undef, undef, undef, undef, undef, undef, undef, undef, undef, undef, undef, undef, undef, undef, undef, undef, undef, undef, undef], defers := [] } w := ⟨0, 0, p0, _, _, _, _, _, _, _, _, _, _, _, _, _, _, _, _, _, _, _, _, _, _, _, _, _, _, _, _, _, _, _, _, _, _, _, _, _, _, _, _, _, _, _, _, _, _, _, _, _, _, _, _, _, _, _, _, rfl, Carry.start p0 k hl, hN, ⟨rfl, rfl, rfl, Nat.le_refl _, fun _ _ _ => rfl⟩, rfl⟩
    rename_i hK
    exact hK _ _ (HP.out _ _ h1)
  · rintro a' wr ⟨t, o, p, u5, u6, u7, u8, u9, u10, u11, u12, u13, u14, u15, u16, u17, u18, u19, u20, u21, u22, u23, u24, u25, u26, u27, u28, u29, u30, u31, u32, u33, u34, u35, u36, u37, u38, u39, u40, u41, u42, u43, u44, u45, u46, u47, u48, u49, u50, u51, u52, u53, u54, u55, u56, u57, u58, u59, u60, rfl, hC, hM, hG, hS⟩
    have c0 := hM.c0
    have HC : Hid (Carry p0 k t o p) := hC
    have hp := hC.len
    have hob : -1000000000000 ≤ o ∧ o ≤ 1000000000000 ∧ t ≤ k + 2 := by rcases hC.bd with h | h | h <;> omega
    obtain ⟨ho1, ho2, htk⟩ := hob
    clear hC
    by_cases hgo : t < k ∨ 0 < o
    · have ht : t < 204 := by rcases HC.out.bd with h | h | h <;> omega
      have hti : (t : Int) < 204 := by omega
      have hyb : -999999999999999999 ≤ p.getD t 0 ∧ p.getD t 0 ≤ 999999999999999999 := by rw [HC.out.rest t (Nat.le_refl _)]; exact ⟨(HB.out t).1, (HB.out t).2.1⟩
      have c1 := hM.cs t (by omega)
      obtain ⟨y, hy⟩ : ∃ y, y = p.getD t 0 := ⟨_, rfl⟩
      rw [← hy] at c1 hyb
      have HY : Hid (y = p.getD t 0) := hy
      obtain ⟨hy1, hy2⟩ := hyb
      have hfr := hM.fr (1 + t)
      clear hy
      by_cases hx : 0 ≤ o + y
      · have hC' := HC.out.step (q := (o + y) / 1000000) (r := (o + y) % 1000000) hk hgo HB.out HO.out (by rw [← HY.out]; omega) (by omega) (by omega)
        have hM' := hM.setS t ((o + y) % 1000000)
        have hG' := grownBy_set hG (1 + t) (.int .i64 ((o + y) % 1000000))
        have hS' := (size_setCell wr ⟨b, 1 + t, none⟩ (.int .i64 ((o + y) % 1000000))).trans hS
        have HH : Hid (Carry p0 k (t + 1) ((o + y) / 1000000) (p.set t ((o + y) % 1000000)) ∧ NatAt (wr.setCell ⟨b, 1 + t, none⟩ (.int .i64 ((o + y) % 1000000))) b k (p.set t ((o + y) % 1000000)) ∧ w.grownBy (wr.setCell ⟨b, 1 + t, none⟩ (.int .i64 ((o + y) % 1000000))) (some b) ∧ (wr.setCell ⟨b, 1 + t, none⟩ (.int .i64 ((o + y) % 1000000))).heap.size = w.heap.size) := ⟨hC', hM', hG', hS'⟩
        clear hC' hM' hG' hS' hG hS
        go_wp2
        all_goals
          go_step3
          obtain ⟨hC', hM', hG', hS'⟩ := HH.out
          refine ⟨rfl, ⟨t + 1, _, _, _, _, _, _, _, _, _, _, _, _, _, _, _, _, _, _, _, _, _, _, _, _, _, _, _, _, _, _, _, _, _, _, _, _, _, _, _, _, _, _, _, _, _, _, _, _, _, _, _, _, _, _, _, _, _, _, rfl, hC', hM', hG', hS'⟩, ?_⟩
          show 206 - (t + 1) < 206 - t
          omega
      · obtain ⟨q0, hq0⟩ : ∃ q, (o + y).tdiv 1000000 = q := ⟨_, rfl⟩
        obtain ⟨r0, hr0⟩ : ∃ r, (o + y).tmod 1000000 = r := ⟨_, rfl⟩
        have hxy := Int.mul_tdiv_add_tmod (o + y) 1000000
        rw [hq0, hr0] at hxy
        have hr1 : -1000000 < r0 := by rw [← hr0]; have := Int.lt_tmod_of_pos (o + y) (b := 1000000) (by omega); omega
        have hr2 : r0 ≤ 0 := by
          rw [← hr0]; have := Int.tmod_nonneg 1000000 (a := -(o + y)) (by omega); rw [Int.neg_tmod] at this; omega
        have HXY : Hid (1000000 * q0 + r0 = o + y) := hxy
        have hq1 : -2000000000000 ≤ q0 := by omega
        have hq2 : q0 ≤ 0 := by omega
        clear hxy
        by_cases hz : r0 = 0
        · subst hz
          have hC' := HC.out.step (q := q0) (r := 0) hk hgo HB.out HO.out (by rw [← HY.out]; have := HXY.out; omega) (by omega) (by omega)
          have hM' := hM.setS t 0
          have HH : Hid (Carry p0 k (t + 1) q0 (p.set t 0) ∧ NatAt (wr.setCell ⟨b, 1 + t, none⟩ (.int .i64 0)) b k (p.set t 0) ∧ w.grownBy (wr.setCell ⟨b, 1 + t, none⟩ (.int .i64 0)) (some b) ∧ (wr.setCell ⟨b, 1 + t, none⟩ (.int .i64 0)).heap.size = w.heap.size) := ⟨hC', hM', grownBy_set hG _ _, (size_setCell _ _ _).trans hS⟩
          clear hC' hM' hG hS
          go_wp2
          all_goals
            go_step3
            obtain ⟨hC', hM', hG', hS'⟩ := HH.out
            refine ⟨rfl, ⟨t + 1, _, _, _, _, _, _, _, _, _, _, _, _, _, _, _, _, _, _, _, _, _, _, _, _, _, _, _, _, _, _, _, _, _, _, _, _, _, _, _, _, _, _, _, _, _, _, _, _, _, _, _, _, _, _, _, _, _, _, rfl, hC', hM', hG', hS'⟩, ?_⟩
            show 206 - (t + 1) < 206 - t
            omega
        · have hrn : r0 < 0 := by omega
          have hC' := HC.out.step (q := q0 - 1) (r := r0 + 1000000) hk hgo HB.out HO.out (by rw [← HY.out]; have := HXY.out; omega) (by omega) (by omega)
          obtain ⟨w2, hw2⟩ : ∃ w2, w2 = wr.setCell ⟨b, 1 + t, none⟩ (.int .i64 r0) := ⟨_, rfl⟩
          have hM2 : NatAt w2 b k (p.set t r0) := by rw [hw2]; exact hM.setS t r0
          have c2 := hM2.cs t (by rw [List.length_set]; omega)
          rw [getD_set _ _ _ _ (by omega), if_pos rfl] at c2
          have hfr2 := hM2.fr (1 + t)
          have hM3 := NatAt.setS (w := w2.drew) hM2 t (r0 + 1000000)
          rw [List.set_set] at hM3
          have hG2 : w.grownBy w2.drew (some b) := by rw [hw2]; exact grownBy_drew (grownBy_set hG _ _)
          have hS2 : w2.drew.heap.size = w.heap.size := by rw [hw2]; exact (size_setCell _ _ _).trans hS
          have HH : Hid (Carry p0 k (t + 1) (q0 - 1) (p.set t (r0 + 1000000)) ∧ NatAt (w2.drew.setCell ⟨b, 1 + t, none⟩ (.int .i64 (r0 + 1000000))) b k (p.set t (r0 + 1000000)) ∧ w.grownBy (w2.drew.setCell ⟨b, 1 + t, none⟩ (.int .i64 (r0 + 1000000))) (some b) ∧ (w2.drew.setCell ⟨b, 1 + t, none⟩ (.int .i64 (r0 + 1000000))).heap.size = w.heap.size) := ⟨hC', hM3, grownBy_set hG2 _ _, (size_setCell _ _ _).trans hS2⟩
          have HW : Hid (w2 = wr.setCell ⟨b, 1 + t, none⟩ (.int .i64 r0)) := hw2
          clear hz hC' hM3 hG2 hS2 hM2 hw2 hG hS
          go_wp2
          all_goals
            rw [← HW.out]
            clear c0 c1 hfr
            refine wp_region_still_tail 10 (by kernel_rfl) (by kernel_rfl) ?_
            simp only [List.take_succ_cons, List.take_zero, List.drop_succ_cons, List.drop_zero]
            repeat still_step
            refine wpStill_nil ?_
            go_wp2
            go_step3
            obtain ⟨hC', hM', hG', hS'⟩ := HH.out
            refine ⟨rfl, ⟨t + 1, _, _, _, _, _, _, _, _, _, _, _, _, _, _, _, _, _, _, _, _, _, _, _, _, _, _, _, _, _, _, _, _, _, _, _, _, _, _, _, _, _, _, _, _, _, _, _, _, _, _, _, _, _, _, _, _, _, _, rfl, hC', hM', hG', hS'⟩, ?_⟩
            show 206 - (t + 1) < 206 - t
            omega
    · have hg1 : ¬ (t : Int) < (k : Int) := by omega
      have hg2 : ¬ 0 < o := by omega
      have hfr := hM.fr 0
      go_wp2_with fail
      have hM' := hM.set0 (t : Int)
      have hG' := grownBy_set hG 0 (.int .i64 (t : Int))
      have hS' := (size_setCell wr ⟨b, 0, none⟩ (.int .i64 (t : Int))).trans hS
      refine (trim_any b t p _ hp (by omega) hM').mono ?_
      rintro e w2 ⟨rfl, hN2, hg2', hs2⟩
      have hE := HC.out.end hk (by omega) (by omega) HO.out
      have HE : Hid ((o = 0 ∧ ∃ n : Nat, vb 1000000 p0 = (n : Int) ∧ Rep n (trimTo p t) p) ∨ (o < 0 ∧ vb 1000000 p0 < 0)) := hE
      have hG2 : w.grownBy w2 (some b) := grownBy_trans hG' hg2'
      have hS2 := hs2.trans hS'
      clear hM' hG' hS' hE hM hG hS c0 hfr hg2' hs2
      by_cases ho : o = 0
      · subst ho
        go_wp2
        simp only [Exit.jump]
        go_ret
        rcases HE.out with ⟨_, n, h1, h2⟩ | ⟨h, _⟩
        · exact ⟨true, _, p, rfl, hp, hN2, hG2, hS2, .inl ⟨rfl, n, h1, h2⟩⟩
        · omega
      · have hob : (o == 0) = false := by simpa using ho
        go_wp2
        simp only [Exit.jump]
        go_ret
        rcases HE.out with ⟨h, _⟩ | ⟨_, h⟩
        · omega
        · exact ⟨false, _, p, rfl, hp, hN2, hG2, hS2, .inr ⟨rfl, h⟩⟩

theorem carry_any (b k : Nat) (p0 : List Int) (w : World) (hl : p0.length = 204) (hk : k + 2 ≤ 204) (hN : NatAt w b k p0) (hbd : ∀ i, -400000000000000 ≤ p0.getD i 0 ∧ p0.getD i 0 ≤ 400000000000000) (hout : ∀ i, k ≤ i → p0.getD i 0 = 0) :
    Calls Tryd.prog 61 #[.pointer (some ⟨b, 0, none⟩)] w fun e w' => ∃ (ok : Bool) (j : Nat) (p : List Int), e = .returned (.bool ok) ∧ p.length = 204 ∧ NatAt w' b j p ∧ w.grownBy w' (some b) ∧ w'.heap.size = w.heap.size ∧
      ((ok = true ∧ ∃ n : Nat, vb 1000000 p0 = (n : Int) ∧ Rep n j p) ∨ (ok = false ∧ vb 1000000 p0 < 0)) :=
  carry_big b k p0 w hl hk hN (fun i => ⟨by have := hbd i; omega, by have := hbd i; omega, fun _ => by have := hbd i; omega⟩) hout
end Go.Proofs.YtmfpnbmfcoahbaaDoor

/-
  What plus and fits of impl's nats answer.
-/
namespace Go.Proofs.YtmfpnbmfcoahbaaDoor
open Go.RowKit
set_option linter.unusedVariables false

/-- The parts of q below j added to those of p. -/
def addTo (p q : List Int) : Nat → List Int
  | 0 => p
  | j + 1 => (addTo p q j).set j ((addTo p q j).getD j 0 + q.getD j 0)

theorem addTo_len (p q : List Int) (j : Nat) : (addTo p q j).length = p.length := by
  induction j with
  | zero => rfl
  | succ j ih => simp [addTo, ih]
theorem addTo_get (p q : List Int) (j i : Nat) (hj : j ≤ p.length) : (addTo p q j).getD i 0 = if i < j then p.getD i 0 + q.getD i 0 else p.getD i 0 := by
  induction j with
  | zero => simp [addTo]
  | succ j ih =>
    unfold addTo
    rw [getD_set _ _ _ _ (by rw [addTo_len]; omega)]
    by_cases e : i = j
    · subst e; rw [if_pos rfl, ih (by omega), if_neg (by omega), if_pos (by omega)]
    · rw [if_neg e, ih (by omega)]
      by_cases h : i < j
      · rw [if_pos h, if_pos (by omega)]
      · rw [if_neg h, if_neg (by omega)]
theorem addTo_val (B : Int) (p q : List Int) (j : Nat) (hj : j ≤ p.length) (hq : j ≤ q.length) : vb B (addTo p q j) = vb B p + vb B (q.take j) := by
  induction j with
  | zero => simp [addTo, vb]
  | succ j ih =>
    unfold addTo
    rw [vb_set _ _ _ _ (by rw [addTo_len]; omega), ih (by omega) (by omega), List.take_succ_eq_append_getElem (by omega), vb_snoc]
    have : q.getD j 0 = q[j] := by simp [List.getD, show j < q.length by omega]
    rw [this, List.length_take, Nat.min_eq_left (by omega)]
    have e : (addTo p q j).getD j 0 + q[j] - (addTo p q j).getD j 0 = q[j] := by omega
    rw [e]; omega
theorem vb_take_out (B : Int) (q : List Int) (m : Nat) (h : m ≤ q.length) (out : ∀ i, m ≤ i → q.getD i 0 = 0) : vb B (q.take m) = vb B q := by
  rw [vb_split B q m h]
  have : vb B (q.drop m) = 0 := vb_zero B _ (fun i => by rw [getD_drop]; exact out _ (by omega))
  rw [this]; simp

theorem res_nat {fn : Func} {x : Tmp} (h : fn.results = #[.cell x 46]) (tmps : Array Value) (w : World) (b : Nat) (n : Int) (p : List Int)
    (hp : tmps.getD x undef = .pointer (some ⟨b, 0, none⟩)) (hN : NatAt w b n p) (hl : p.length = 204) : (results fn tmps).run Tryd.prog w = .ok (.agg (natC n p)) w :=
  results_cell_row h tmps w b 46 (natC n p) (0, 0) _ hp hN Tryd.underlying46 rfl (nat_info n p hl)

set_option maxHeartbeats 1000000 in
set_option maxRecDepth 100000 in
theorem plus_wide {n m k j : Nat} {p q : List Int} (w : World) (hP : Rep n k p) (hQ : Rep m j q) (hk : k ≤ 202) (hj : j ≤ 202) :
    Calls Tryd.prog 31 #[.agg (natC k p), .agg (natC j q)] w fun e w' => ∃ (i : Nat) (r : List Int), e = .returned (.agg (natC i r)) ∧ Rep (n + m) i r ∧ Below w.heap.size w w' := by
  have hz := zero_nat.1
  have hp := hP.len
  have hq := hQ.len
  have A := ((NatAt.new w k p).old (.cells (natC j q) 46)).old (.cells (natC 0 zP) 46)
  have B := (NatAt.new (w.alloc (.cells (natC k p) 46)) j q).old (.cells (natC 0 zP) 46)
  have C := NatAt.new ((w.alloc (.cells (natC k p) 46)).alloc (.cells (natC j q) 46)) 0 zP
  have hB : Below w.heap.size w (((w.alloc (.cells (natC k p) 46)).alloc (.cells (natC j q) 46)).alloc (.cells (natC 0 zP) 46)) := (((Below.refl _ _).alloc (Nat.le_refl _) _).alloc (by simp) _).alloc (by simp; omega) _
  simp only [World.size_alloc] at B C
  have b0 := B.c0
  have HP : Hid (Rep n k p) := hP
  have HQ : Hid (Rep m j q) := hQ
  clear hP hQ
  go_enter Tryd.func31, Tryd.ntmps31
  go_wp2
  go_loopg [8] j (fun g i wr => ∃ t : Nat, g = j - t ∧ t ≤ j ∧ i = .int .i64 (t : Int) ∧ NatAt wr w.heap.size k (addTo p q t) ∧ NatAt wr (w.heap.size + 1) j q ∧ NatAt wr (w.heap.size + 1 + 1) 0 zP ∧ Below w.heap.size w wr)
  case atStart => exact ⟨0, rfl, by omega, rfl, A, B, C, hB⟩
  case round =>
    obtain ⟨t, rfl, ht, rfl, hA, hQt, hC, hW⟩ := hrel
    clear A B C hB b0
    have hl : (addTo p q t).length = 204 := by rw [addTo_len]; exact hp
    by_cases hlt : (t : Int) < (j : Int)
    · have a1 := hA.cs t (by omega)
      have b1 := hQt.cs t (by omega)
      have hfr := hA.fr (1 + t)
      have ht2 : (t : Int) < 204 := by omega
      obtain ⟨x, hx⟩ : ∃ x, x = (addTo p q t).getD t 0 := ⟨_, rfl⟩
      obtain ⟨y, hy⟩ : ∃ y, y = q.getD t 0 := ⟨_, rfl⟩
      have hx0 : 0 ≤ x ∧ x < 1000000 := by
        rw [hx, addTo_get _ _ _ _ (by omega), if_neg (by omega)]; exact ⟨HP.out.lo t, HP.out.hi t⟩
      have hy0 : 0 ≤ y ∧ y < 1000000 := by rw [hy]; exact ⟨HQ.out.lo t, HQ.out.hi t⟩
      obtain ⟨hx0, hx1⟩ := hx0
      obtain ⟨hy0, hy1⟩ := hy0
      rw [← hx] at a1
      rw [← hy] at b1
      have HX : Hid (x = (addTo p q t).getD t 0 ∧ y = q.getD t 0) := ⟨hx, hy⟩
      clear hx hy
      go_wp2_with fail
      refine wp_region_still_tail 11 (by kernel_rfl) (by kernel_rfl) ?_
      simp only [List.take_succ_cons, List.take_zero, List.drop_succ_cons, List.drop_zero]
      repeat still_step
      refine wpStill_nil ?_
      go_wp2
      go_roundg (j - (t + 1))
      case measure => omega
      case rel =>
        obtain ⟨hx, hy⟩ := HX.out
        refine ⟨t + 1, rfl, by omega, by go_num, ?_, ?_, ?_, ?_⟩
        · have h1 : NatAt wr.drew w.heap.size k (addTo p q t) := hA
          have h2 := h1.setS t (x + y)
          show NatAt _ _ _ ((addTo p q t).set t ((addTo p q t).getD t 0 + q.getD t 0))
          rw [← hx, ← hy]
          exact h2
        · exact hQt.grown (grownBy_set (w := wr) (wr := wr.drew) ⟨rfl, rfl, rfl, Nat.le_refl _, fun _ _ _ => rfl⟩ _ _) (by simp)
        · exact hC.grown (grownBy_set (w := wr) (wr := wr.drew) ⟨rfl, rfl, rfl, Nat.le_refl _, fun _ _ _ => rfl⟩ _ _) (by simp; omega)
        · exact (hW.drew).setCell (by simp) _
    · have htj : t = j := by omega
      subst htj
      have a0 := hA.c0
      have b0 := hQt.c0
      have hfr := hA.fr 0
      have hbd : Hid (∀ i, -400000000000000 ≤ (addTo p q t).getD i 0 ∧ (addTo p q t).getD i 0 ≤ 400000000000000) := fun i => by
        rw [addTo_get _ _ _ _ (by omega)]
        have := HP.out.lo i; have := HP.out.hi i; have := HQ.out.lo i; have := HQ.out.hi i
        split <;> omega
      have hout : Hid (∀ i, k ≤ i → t ≤ i → (addTo p q t).getD i 0 = 0) := fun i h1 h2 => by
        rw [addTo_get _ _ _ _ (by omega), if_neg (by omega)]; exact HP.out.out i h1
      have hval : Hid (vb 1000000 (addTo p q t) = ((n + m : Nat) : Int)) := by
        unfold Hid
        rw [addTo_val _ _ _ _ (by omega) (by omega), vb_take_out _ _ _ (by omega) HQ.out.out, HP.out.val, HQ.out.val]; omega
      have hWs := hW.size
      rcases Int.lt_trichotomy (k : Int) (t : Int) with hkt | hkt | hkt
      · have hA' := hA.set0 (t : Int)
        have hg' := grownBy_set (r0 wr) (b := w.heap.size) 0 (.int .i64 (t : Int))
        have hQ' := hC.grown hg' (by simp; omega)
        have hW' := hW.setCell (p := ⟨w.heap.size, 0, none⟩) (Nat.le_refl _) (.int .i64 (t : Int))
        go_wp2_with fail
        refine (carry_any w.heap.size t (addTo p q t) _ hl (by omega) hA' hbd.out (fun i hi => hout.out i (by omega) (by omega))).mono ?_
        rintro e w2 ⟨ok, i, r, rfl, hr, hN2, hg2, hs2, hcase⟩
        have hR : Rep (n + m) i r := by
          rcases hcase with ⟨_, n', h1, h2⟩ | ⟨_, h1⟩
          · have : n' = n + m := by have := hval.out; omega
            rw [← this]; exact h2
          · have := hval.out; omega
        have hC2 := hQ'.grown hg2 (by simp; omega)
        have hW2 : Below w.heap.size w w2 := hW'.grown hg2 (by have := hW'.size; omega) (by intro k hk; cases hk; omega)
        have HR : Hid (Rep (n + m) i r) := hR
        clear hA hQt hC hW hA' hg' hQ' hW' hg2 hs2 hcase hR a0 b0 hfr
        go_wp2_with (first | (refine load_nat rfl _ rfl w.heap.size rfl i r hN2 hr ?_) | (refine store_nat rfl _ _ rfl rfl (w.heap.size + 1 + 1) i r rfl rfl 0 zP hC2 zP_len hr ?_; intro w3 hN3 hg3 hs3))
        refine bodyPost_ret (v := .agg (natC i r)) (res_nat Tryd.results31 _ _ (w.heap.size + 1 + 1) _ _ rfl hN3 hr) rfl ⟨i, r, rfl, HR.out, ?_⟩
        exact hW2.grown hg3 (by have := hW2.size; omega) (by intro k hk; cases hk; omega)
      · have hkt' : k = t := by omega
        subst hkt'
        have hA' := hA.set0 (k : Int)
        have hg' := grownBy_set (r0 wr) (b := w.heap.size) 0 (.int .i64 (k : Int))
        have hQ' := hC.grown hg' (by simp; omega)
        have hW' := hW.setCell (p := ⟨w.heap.size, 0, none⟩) (Nat.le_refl _) (.int .i64 (k : Int))
        go_wp2_with fail
        refine (carry_any w.heap.size k (addTo p q k) _ hl (by omega) hA' hbd.out (fun i hi => hout.out i (by omega) (by omega))).mono ?_
        rintro e w2 ⟨ok, i, r, rfl, hr, hN2, hg2, hs2, hcase⟩
        have hR : Rep (n + m) i r := by
          rcases hcase with ⟨_, n', h1, h2⟩ | ⟨_, h1⟩
          · have : n' = n + m := by have := hval.out; omega
            rw [← this]; exact h2
          · have := hval.out; omega
        have hC2 := hQ'.grown hg2 (by simp; omega)
        have hW2 : Below w.heap.size w w2 := hW'.grown hg2 (by have := hW'.size; omega) (by intro k hk; cases hk; omega)
        have HR : Hid (Rep (n + m) i r) := hR
        clear hA hQt hC hW hA' hg' hQ' hW' hg2 hs2 hcase hR a0 b0 hfr
        go_wp2_with (first | (refine load_nat rfl _ rfl w.heap.size rfl i r hN2 hr ?_) | (refine store_nat rfl _ _ rfl rfl (w.heap.size + 1 + 1) i r rfl rfl 0 zP hC2 zP_len hr ?_; intro w3 hN3 hg3 hs3))
        refine bodyPost_ret (v := .agg (natC i r)) (res_nat Tryd.results31 _ _ (w.heap.size + 1 + 1) _ _ rfl hN3 hr) rfl ⟨i, r, rfl, HR.out, ?_⟩
        exact hW2.grown hg3 (by have := hW2.size; omega) (by intro k hk; cases hk; omega)
      · have hA' := hA.set0 (k : Int)
        have hg' := grownBy_set (r0 wr) (b := w.heap.size) 0 (.int .i64 (k : Int))
        have hQ' := hC.grown hg' (by simp; omega)
        have hW' := hW.setCell (p := ⟨w.heap.size, 0, none⟩) (Nat.le_refl _) (.int .i64 (k : Int))
        go_wp2_with fail
        refine (carry_any w.heap.size k (addTo p q t) _ hl (by omega) hA' hbd.out (fun i hi => hout.out i (by omega) (by omega))).mono ?_
        rintro e w2 ⟨ok, i, r, rfl, hr, hN2, hg2, hs2, hcase⟩
        have hR : Rep (n + m) i r := by
          rcases hcase with ⟨_, n', h1, h2⟩ | ⟨_, h1⟩
          · have : n' = n + m := by have := hval.out; omega
            rw [← this]; exact h2
          · have := hval.out; omega
        have hC2 := hQ'.grown hg2 (by simp; omega)
        have hW2 : Below w.heap.size w w2 := hW'.grown hg2 (by have := hW'.size; omega) (by intro k hk; cases hk; omega)
        have HR : Hid (Rep (n + m) i r) := hR
        clear hA hQt hC hW hA' hg' hQ' hW' hg2 hs2 hcase hR a0 b0 hfr
        go_wp2_with (first | (refine load_nat rfl _ rfl w.heap.size rfl i r hN2 hr ?_) | (refine store_nat rfl _ _ rfl rfl (w.heap.size + 1 + 1) i r rfl rfl 0 zP hC2 zP_len hr ?_; intro w3 hN3 hg3 hs3))
        refine bodyPost_ret (v := .agg (natC i r)) (res_nat Tryd.results31 _ _ (w.heap.size + 1 + 1) _ _ rfl hN3 hr) rfl ⟨i, r, rfl, HR.out, ?_⟩
        exact hW2.grown hg3 (by have := hW2.size; omega) (by intro k hk; cases hk; omega)

theorem plus_any {n m k j : Nat} {p q : List Int} (w : World) (hP : Rep n k p) (hQ : Rep m j q) (hk : k ≤ 100) (hj : j ≤ 100) :
    Calls Tryd.prog 31 #[.agg (natC k p), .agg (natC j q)] w fun e w' => ∃ (i : Nat) (r : List Int), e = .returned (.agg (natC i r)) ∧ Rep (n + m) i r ∧ Below w.heap.size w w' :=
  plus_wide w hP hQ (Nat.le_trans hk (by decide)) (Nat.le_trans hj (by decide))

theorem fits_any (k : Nat) (p : List Int) (w : World) :
    Calls Tryd.prog 67 #[.agg (natC k p)] w fun e w' => e = .returned (.bool (decide (k ≤ 100))) ∧ Below w.heap.size w w' := by
  have a0 := (NatAt.new w k p).c0
  by_cases h : (k : Int) ≤ 100
  · have hd : decide (k ≤ 100) = true := by simp; omega
    rw [hd]
    go_enter Tryd.func67, Tryd.ntmps67
    go_wp2
    go_ret
    exact ⟨rfl, (Below.refl _ _).alloc (Nat.le_refl _) _⟩
  · have hd : decide (k ≤ 100) = false := by simp; omega
    rw [hd]
    go_enter Tryd.func67, Tryd.ntmps67
    go_wp2
    go_ret
    exact ⟨rfl, (Below.refl _ _).alloc (Nat.le_refl _) _⟩

end Go.Proofs.YtmfpnbmfcoahbaaDoor

/-
  Dividing numbers in parts of six digits: plain facts.
-/
namespace Go.Proofs.YtmfpnbmfcoahbaaDoor
set_option linter.unusedVariables false

theorem drop_val6 (p : List Int) (g : Nat) (h : g < p.length) : vb 1000000 (p.drop g) = p.getD g 0 + 1000000 * vb 1000000 (p.drop (g + 1)) := by
  rw [List.drop_eq_getElem_cons h]; simp [vb, List.getD, h]

/-- What stands from the place s on, and less than one of it more. -/
theorem vb_mid (p : List Int) (s : Nat) (hs : s ≤ p.length) (lo : ∀ i, 0 ≤ p.getD i 0) (hi : ∀ i, p.getD i 0 < 1000000) :
    1000000 ^ s * vb 1000000 (p.drop s) ≤ vb 1000000 p ∧ vb 1000000 p < 1000000 ^ s * (vb 1000000 (p.drop s) + 1) := by
  have b := vb_lt 1000000 (by omega) (p.take s) s (fun j => by rw [getD_take]; split; exact lo j; omega) (fun j => by rw [getD_take]; split; exact hi j; omega) (fun j hj => by rw [getD_take, if_neg (by omega)])
  rw [vb_split 1000000 p s hs, Int.mul_add]
  omega

/-- Where divideSmall stands: the parts from t on are the quotient's, r is left of them. -/
structure DivS (p0 : List Int) (d : Int) (t : Nat) (r : Int) (p : List Int) : Prop where
  len : p.length = 204
  lo : ∀ i, 0 ≤ p.getD i 0
  hi : ∀ i, p.getD i 0 < 1000000
  low : ∀ i, i < t → p.getD i 0 = p0.getD i 0
  r0 : 0 ≤ r
  r1 : r < d
  val : vb 1000000 (p0.drop t) = d * vb 1000000 (p.drop t) + r

theorem DivS.start {n k : Nat} {p : List Int} {d : Int} (h : Rep n k p) (hd : 0 < d) : DivS p d k 0 p :=
  ⟨h.len, h.lo, h.hi, fun _ _ => rfl, by omega, hd, by
    rw [vb_zero _ _ (fun i => by rw [getD_drop]; exact h.out _ (by omega))]; simp⟩

theorem small_bd {r x d : Int} (r0 : 0 ≤ r) (r1 : r < d) (x0 : 0 ≤ x) (x1 : x < 1000000) : 0 ≤ (r * 1000000 + x) / d ∧ (r * 1000000 + x) / d < 1000000 ∧ 0 ≤ (r * 1000000 + x) % d ∧ (r * 1000000 + x) % d < d := by
  refine ⟨Int.ediv_nonneg (by omega) (by omega), Int.ediv_lt_of_lt_mul (by omega) (by omega), Int.emod_nonneg _ (by omega), Int.emod_lt_of_pos _ (by omega)⟩

theorem DivS.step {p0 p : List Int} {d r : Int} {t : Nat} (h : DivS p0 d (t + 1) r p) (ht : t < 204) (hl0 : p0.length = 204) :
    DivS p0 d t ((r * 1000000 + p.getD t 0) % d) (p.set t ((r * 1000000 + p.getD t 0) / d)) := by
  have hb := small_bd h.r0 h.r1 (h.lo t) (h.hi t)
  have hlen := h.len
  refine ⟨by simp [h.len], fun i => ?_, fun i => ?_, fun i hi => ?_, hb.2.2.1, hb.2.2.2, ?_⟩
  · rw [getD_set _ _ _ _ (by omega)]; split
    · exact hb.1
    · exact h.lo i
  · rw [getD_set _ _ _ _ (by omega)]; split
    · exact hb.2.1
    · exact h.hi i
  · rw [getD_set _ _ _ _ (by omega), if_neg (by omega)]; exact h.low i (by omega)
  · have e1 := h.val
    have e2 := h.low t (by omega)
    have hd : (p.set t ((r * 1000000 + p.getD t 0) / d)).drop (t + 1) = p.drop (t + 1) := by
      rw [List.drop_set_of_lt (by omega)]
    rw [drop_val6 p0 t (by omega), drop_val6 (p.set t _) t (by simp; omega), hd, getD_set _ _ _ _ (by omega), if_pos rfl, e1, ← e2]
    have hx := Int.mul_ediv_add_emod (r * 1000000 + p.getD t 0) d
    generalize vb 1000000 (p.drop (t + 1)) = V at *
    generalize (r * 1000000 + p.getD t 0) / d = X at *
    rw [Int.mul_add d X, ← Int.mul_assoc d 1000000 V, Int.mul_comm d 1000000, Int.mul_assoc]
    omega

theorem DivS.end {n k : Nat} {p0 p : List Int} {d r : Int} (h : DivS p0 d 0 r p) (hP : Rep n k p0) (hout : ∀ i, k ≤ i → p.getD i 0 = 0) (D : Nat) (hD : d = (D : Int)) :
    r = ((n % D : Nat) : Int) ∧ Rep (n / D) (trimTo p k) p := by
  have hv := h.val
  simp only [List.drop_zero] at hv
  rw [hP.val, hD] at hv
  have h0 := h.r0
  have h1 := h.r1
  have hb := vb_lt 1000000 (by omega) p k h.lo h.hi hout
  obtain ⟨V, hV⟩ : ∃ V : Nat, vb 1000000 p = (V : Int) := ⟨(vb 1000000 p).toNat, by omega⟩
  obtain ⟨R, hR⟩ : ∃ R : Nat, r = (R : Int) := ⟨r.toNat, by omega⟩
  rw [hV, hR] at hv
  have hn : n = D * V + R := by exact_mod_cast hv
  have hRD : R < D := by omega
  have hDp : 0 < D := by omega
  have e1 : n / D = V := by rw [hn, Nat.mul_add_div hDp, Nat.div_eq_of_lt hRD]; omega
  have e2 : n % D = R := by rw [hn, Nat.mul_add_mod, Nat.mod_eq_of_lt hRD]
  refine ⟨by rw [e2, hR], ?_⟩
  rw [e1]
  exact Rep.mk' h.len hP.le h.lo h.hi hout hV

/-! ### The guess -/
/-- Of the numbers c and m (of j parts, two at least) with c below 10^6 times m moved up by t parts: what the first parts tell. -/
theorem guess_ok {c kc m j t : Nat} {pc q : List Int} (hC : Rep c kc pc) (hM : Rep m j q) (hj : 2 ≤ j) (htj : t + j < 204) (hlt : (c : Int) < 1000000 ^ (t + 1) * (m : Int)) (g F D : Int)
    (hF : F = (pc.getD (t + j) 0 * 1000000 + pc.getD (t + j - 1) 0) * 1000000 + pc.getD (t + j - 2) 0) (hD : D = q.getD (j - 1) 0 * 1000000 + q.getD (j - 2) 0) (hg : g = F / D) :
    0 ≤ g ∧ g ≤ 2000000 ∧ (c : Int) < (g + 1) * (1000000 ^ t * (m : Int)) := by
  have hmlt := hM.lt
  have hcp := hC.len
  have hqp := hM.len
  obtain ⟨s, rfl⟩ : ∃ s, j = s + 2 := ⟨j - 2, by omega⟩
  have e0 : t + (s + 2) - 2 = t + s := by omega
  have e1 : t + (s + 2) - 1 = t + s + 1 := by omega
  have e2 : s + 2 - 1 = s + 1 := by omega
  have e3 : s + 2 - 2 = s := by omega
  rw [e0, e1] at hF
  rw [e2, e3] at hD
  have hP : ∀ a : Nat, (0 : Int) < 1000000 ^ a := fun a => Int.pow_pos (by omega)
  -- parts above the top are 0
  have hz : ∀ i, t + s + 3 ≤ i → pc.getD i 0 = 0 := fun i hi => by
    have h0 := hC.lo i
    by_cases e : pc.getD i 0 = 0
    · exact e
    · have h1 := vb_ge 1000000 (by omega) pc i hC.lo (by omega)
      rw [hC.val] at h1
      have h2 : (1000000 : Int) ^ (t + 1) * (m : Int) < 1000000 ^ (t + 1) * 1000000 ^ (s + 2) := Int.mul_lt_mul_of_pos_left hmlt (hP _)
      rw [← Int.pow_add] at h2
      have h3 : (1000000 : Int) ^ (t + 1 + (s + 2)) ≤ 1000000 ^ i := ipow_le (by omega)
      omega
  have hFv : vb 1000000 (pc.drop (t + s)) = F := by
    rw [drop_val6 pc (t + s) (by omega), drop_val6 pc (t + s + 1) (by omega), drop_val6 pc (t + s + 1 + 1) (by omega), vb_zero _ _ (fun i => by rw [getD_drop]; exact hz _ (by omega)), hF]
    have : t + (s + 2) = t + s + 1 + 1 := by omega
    rw [this]
    omega
  have hDv : vb 1000000 (q.drop s) = D := by
    rw [drop_val6 q s (by omega), drop_val6 q (s + 1) (by omega), vb_zero _ _ (fun i => by rw [getD_drop]; exact hM.out _ (by omega)), hD]
    omega
  have hc := vb_mid pc (t + s) (by omega) hC.lo hC.hi
  have hm := vb_mid q s (by omega) hM.lo hM.hi
  rw [hFv, hC.val] at hc
  rw [hDv, hM.val] at hm
  have hD1 : 1 ≤ D := by
    have h1 := hM.top (by omega)
    have h2 := hM.lo (s + 1)
    have h3 := hM.lo s
    rw [e2] at h1
    omega
  have hF0 : 0 ≤ F := by
    have h1 := hC.lo (t + (s + 2)); have h2 := hC.lo (t + s + 1); have h3 := hC.lo (t + s)
    omega
  have hg0 : 0 ≤ g := by rw [hg]; exact Int.ediv_nonneg hF0 (by omega)
  have hx := Int.mul_ediv_add_emod F D
  have hx1 := Int.emod_nonneg F (show D ≠ 0 by omega)
  have hx2 := Int.emod_lt_of_pos F (show 0 < D by omega)
  rw [← hg] at hx
  -- F < (g + 1) D, g D ≤ F
  have hgD : F + 1 ≤ (g + 1) * D := by rw [Int.add_mul, Int.mul_comm g D]; omega
  have hgD' : g * D ≤ F := by rw [Int.mul_comm g D]; omega
  refine ⟨hg0, ?_, ?_⟩
  · -- F < B (D + 1)
    have h1 : (1000000 : Int) ^ (t + 1) * (m : Int) ≤ 1000000 ^ (t + 1) * (1000000 ^ s * (D + 1)) := Int.mul_le_mul_of_nonneg_left (by omega) (Int.le_of_lt (hP _))
    have e4 : (1000000 : Int) ^ (t + 1) * (1000000 ^ s * (D + 1)) = 1000000 ^ (t + s) * (1000000 * (D + 1)) := by
      rw [← Int.mul_assoc, ← Int.pow_add, show t + 1 + s = t + s + 1 by omega, Int.pow_succ, Int.mul_assoc]
    have h2 : (1000000 : Int) ^ (t + s) * F < 1000000 ^ (t + s) * (1000000 * (D + 1)) := by omega
    have h3 := Int.lt_of_mul_lt_mul_left h2 (Int.le_of_lt (hP _))
    by_cases hgg : g ≤ 2000000
    · exact hgg
    · have h4 : 2000001 * D ≤ g * D := Int.mul_le_mul_of_nonneg_right (by omega) (by omega)
      omega
  · have h1 : (1000000 : Int) ^ (t + s) * (F + 1) ≤ 1000000 ^ (t + s) * ((g + 1) * D) := Int.mul_le_mul_of_nonneg_left hgD (Int.le_of_lt (hP _))
    have e4 : (1000000 : Int) ^ (t + s) * ((g + 1) * D) = (g + 1) * (1000000 ^ t * (1000000 ^ s * D)) := by
      rw [Int.pow_add, Int.mul_assoc, ← Int.mul_assoc (1000000 ^ s) (g + 1), Int.mul_comm (1000000 ^ s) (g + 1), Int.mul_assoc (g + 1), ← Int.mul_assoc (1000000 ^ t) (g + 1), Int.mul_comm (1000000 ^ t) (g + 1), Int.mul_assoc (g + 1)]
    have h2 : (g + 1) * (1000000 ^ t * (1000000 ^ s * D)) ≤ (g + 1) * (1000000 ^ t * (m : Int)) :=
      Int.mul_le_mul_of_nonneg_left (Int.mul_le_mul_of_nonneg_left (by omega) (Int.le_of_lt (hP _))) (by omega)
    omega

/-! ### The long division -/
/-- Where divide stands: the quotient's parts from t on are there, c is left. -/
structure DivL (n m K t c : Nat) (Q : List Int) : Prop where
  len : Q.length = 204
  lo : ∀ i, 0 ≤ Q.getD i 0
  hi : ∀ i, Q.getD i 0 < 1000000
  low : ∀ i, i < t → Q.getD i 0 = 0
  out : ∀ i, K ≤ i → Q.getD i 0 = 0
  val : (n : Int) = vb 1000000 Q * (m : Int) + (c : Int)
  lt : (c : Int) < 1000000 ^ t * (m : Int)

theorem DivL.start {n m K : Nat} (h : (n : Int) < 1000000 ^ K * (m : Int)) : DivL n m K K n zP :=
  ⟨zP_len, fun i => by rw [zP_get]; omega, fun i => by rw [zP_get]; omega, fun i _ => zP_get i, fun i _ => zP_get i, by rw [vb_zero _ _ zP_get]; simp, h⟩

theorem DivL.start_lt {n m k j : Nat} {p q : List Int} (hP : Rep n k p) (hM : Rep m j q) (hj : 0 < j) (hkj : j ≤ k) : (n : Int) < 1000000 ^ (k - j + 1) * (m : Int) := by
  have h1 := hP.lt
  have h2 := hM.ge hj
  have h3 : (1000000 : Int) ^ (k - j + 1) * 1000000 ^ (j - 1) ≤ 1000000 ^ (k - j + 1) * (m : Int) := Int.mul_le_mul_of_nonneg_left h2 (Int.le_of_lt (Int.pow_pos (by omega)))
  rw [← Int.pow_add, show k - j + 1 + (j - 1) = k by omega] at h3
  omega

theorem DivL.step {n m K t c c' : Nat} {Q : List Int} (a : Int) (h : DivL n m K (t + 1) c Q) (ht : t < K) (hK : K ≤ 204) (ha : 0 ≤ a) (hc : (c' : Int) = (c : Int) - a * (1000000 ^ t * (m : Int))) (hlt : (c : Int) < (a + 1) * (1000000 ^ t * (m : Int))) :
    DivL n m K t c' (Q.set t a) := by
  have hlen := h.len
  have hb : (0 : Int) < 1000000 ^ t := Int.pow_pos (by omega)
  have ha1 : a < 1000000 := by
    by_cases e : a < 1000000
    · exact e
    · have h1 : 1000000 * (1000000 ^ t * (m : Int)) ≤ a * (1000000 ^ t * (m : Int)) := Int.mul_le_mul_of_nonneg_right (by omega) (Int.mul_nonneg (Int.le_of_lt hb) (by omega))
      have h2 := h.lt
      rw [Int.pow_succ, Int.mul_comm (1000000 ^ t) 1000000, Int.mul_assoc] at h2
      omega
  refine ⟨by simp [h.len], fun i => ?_, fun i => ?_, fun i hi => ?_, fun i hi => ?_, ?_, ?_⟩
  · rw [getD_set _ _ _ _ (by omega)]; split
    · exact ha
    · exact h.lo i
  · rw [getD_set _ _ _ _ (by omega)]; split
    · exact ha1
    · exact h.hi i
  · rw [getD_set _ _ _ _ (by omega), if_neg (by omega)]; exact h.low i (by omega)
  · rw [getD_set _ _ _ _ (by omega), if_neg (by omega)]; exact h.out i hi
  · rw [vb_set _ _ _ _ (by omega), h.low t (by omega), hc, h.val, Int.sub_zero, Int.add_mul, ← Int.mul_assoc a, Int.mul_comm a (1000000 ^ t)]
    omega
  · rw [Int.add_mul, Int.one_mul] at hlt
    omega

theorem DivL.end {n m K c : Nat} {Q : List Int} (h : DivL n m K 0 c Q) (hK : K ≤ 204) : c = n % m ∧ Rep (n / m) (trimTo Q K) Q := by
  have hv := h.val
  have hl := h.lt
  rw [Int.pow_zero, Int.one_mul] at hl
  have hb := vb_lt 1000000 (by omega) Q K h.lo h.hi h.out
  obtain ⟨V, hV⟩ : ∃ V : Nat, vb 1000000 Q = (V : Int) := ⟨(vb 1000000 Q).toNat, by omega⟩
  rw [hV] at hv
  have hn : n = m * V + c := by rw [Nat.mul_comm]; exact_mod_cast hv
  have hcm : c < m := by omega
  have hmp : 0 < m := by omega
  have e1 : n / m = V := by rw [hn, Nat.mul_add_div hmp, Nat.div_eq_of_lt hcm]; omega
  have e2 : n % m = c := by rw [hn, Nat.mul_add_mod, Nat.mod_eq_of_lt hcm]
  refine ⟨e2.symm, ?_⟩
  rw [e1]
  exact Rep.mk' h.len hK h.lo h.hi h.out hV
end Go.Proofs.YtmfpnbmfcoahbaaDoor

/-
  What divideSmall of impl's nats answers.
-/
namespace Go.Proofs.YtmfpnbmfcoahbaaDoor
open Go.RowKit
set_option linter.unusedVariables false

set_option maxHeartbeats 1000000 in
set_option maxRecDepth 100000 in
theorem divideSmall_any {n k : Nat} {p : List Int} (D : Nat) (d : Int) (w : World) (hP : Rep n k p) (hk : k ≤ 204) (hD : d = (D : Int)) (hd0 : 0 < d) (hd1 : d < 1000000) :
    Calls Tryd.prog 60 #[.agg (natC k p), .int .i64 d] w fun e w' => ∃ (i : Nat) (r : List Int) (x : Int), e = .returned (.tuple #[.agg (natC i r), .int .i64 x]) ∧ x = ((n % D : Nat) : Int) ∧ Rep (n / D) i r ∧ Below w.heap.size w w' := by
  have hz := zero_nat.1
  have hp := hP.len
  have A := (NatAt.new w k p).old (.cells (natC 0 zP) 46)
  have C := NatAt.new (w.alloc (.cells (natC k p) 46)) 0 zP
  have hB : Below w.heap.size w ((w.alloc (.cells (natC k p) 46)).alloc (.cells (natC 0 zP) 46)) := ((Below.refl _ _).alloc (Nat.le_refl _) _).alloc (by simp) _
  simp only [World.size_alloc] at C
  have a0 := A.c0
  have HP : Hid (Rep n k p) := hP
  have HD : Hid (d = (D : Int)) := hD
  have HS : Hid (DivS p d k 0 p) := DivS.start hP hd0
  clear hP hD
  go_enter Tryd.func60, Tryd.ntmps60
  go_wp2
  go_loopg [7, 6] k (fun g i r wr => ∃ (q : List Int) (x : Int), g ≤ k ∧ i = .int .i64 ((g : Int) - 1) ∧ r = .int .i64 x ∧ Hid (DivS p d g x q) ∧ Hid (∀ i, k ≤ i → q.getD i 0 = 0) ∧ 0 ≤ x ∧ x < d ∧ q.length = 204 ∧ NatAt wr w.heap.size k q ∧ NatAt wr (w.heap.size + 1) 0 zP ∧ Below w.heap.size w wr)
  case atStart => exact ⟨p, 0, Nat.le_refl _, rfl, rfl, HS, HP.out.out, by omega, by omega, hp, A, C, hB⟩
  case round =>
    obtain ⟨q, x, hg, rfl, rfl, HX, HO, hx0, hx1, hq, hA, hC, hW⟩ := hrel
    clear A C hB a0
    cases gk with
    | zero =>
      have hE := HX.out.end HP.out HO.out D HD.out
      have HE := hide hE
      clear hE
      go_wp2_with fail
      refine (trim_any w.heap.size k q _ hq hk hA).mono ?_
      rintro e w2 ⟨rfl, hN2, hg2, hs2⟩
      have hC2 := hC.grown hg2 (by simp)
      have hW2 : Below w.heap.size w w2 := hW.grown hg2 (by have := hW.size; omega) (by intro k hk; cases hk; omega)
      clear hA hC hW hg2 hs2
      go_wp2_with (first | (refine load_nat rfl _ rfl w.heap.size rfl _ q hN2 hq ?_) | (refine store_nat rfl _ _ rfl rfl (w.heap.size + 1) _ q rfl rfl 0 zP hC2 zP_len hq ?_; intro w3 hN3 hg3 hs3))
      refine bodyPost_ret (v := .tuple #[.agg (natC (trimTo q k) q), .int .i64 x]) (res_nat_tmp Tryd.results60 _ _ (w.heap.size + 1) _ _ _ rfl rfl hN3 hq) rfl ⟨_, q, x, rfl, HE.out.1, HE.out.2, ?_⟩
      exact hW2.grown hg3 (by have := hW2.size; omega) (by intro k hk; cases hk; omega)
    | succ t =>
      have a1 := hA.cs t (by omega)
      have ht : (t : Int) < 204 := by omega
      have hfr := hA.fr (1 + t)
      obtain ⟨y, hy⟩ : ∃ y, y = q.getD t 0 := ⟨_, rfl⟩
      have hy0 : 0 ≤ y ∧ y < 1000000 := by rw [hy]; exact ⟨HX.out.lo t, HX.out.hi t⟩
      obtain ⟨hy0, hy1⟩ := hy0
      rw [← hy] at a1
      have HY : Hid (y = q.getD t 0) := hy
      clear hy
      go_wp2
      go_roundg t
      case measure => omega
      case rel =>
        have h := HX.out.step (by omega) hp
        rw [← HY.out] at h
        have hb := small_bd hx0 hx1 hy0 hy1
        refine ⟨q.set t ((x * 1000000 + y) / d), (x * 1000000 + y) % d, by omega, rfl, rfl, h, ?_, hb.2.2.1, hb.2.2.2, by simp [hq], hA.setS t _, ?_, ?_⟩
        · intro i hi
          rw [getD_set _ _ _ _ (by omega), if_neg (by omega)]; exact HO.out i hi
        · exact hC.grown (grownBy_set (r0 wr) _ _) (by simp)
        · exact hW.setCell (by simp) _
end Go.Proofs.YtmfpnbmfcoahbaaDoor

/-
  What guess of impl's nats answers.
-/
namespace Go.Proofs.YtmfpnbmfcoahbaaDoor
open Go.RowKit
set_option linter.unusedVariables false

set_option maxHeartbeats 1000000 in
set_option maxRecDepth 100000 in
theorem guess_any {c kc m j : Nat} {pc q : List Int} (t : Nat) (w : World) (hC : Rep c kc pc) (hM : Rep m j q) (hj : 2 ≤ j) (hT : t + j < 204) :
    Calls Tryd.prog 80 #[.agg (natC kc pc), .agg (natC j q), .int .i64 (t : Int)] w fun e w' =>
      e = .returned (.int .i64 (((pc.getD (t + j) 0 * 1000000 + pc.getD (t + j - 1) 0) * 1000000 + pc.getD (t + j - 2) 0) / (q.getD (j - 1) 0 * 1000000 + q.getD (j - 2) 0))) ∧ Below w.heap.size w w' := by
  have hp := hC.len
  have hq := hM.len
  have A := (NatAt.new w kc pc).old (.cells (natC j q) 46)
  have B := NatAt.new (w.alloc (.cells (natC kc pc) 46)) j q
  have hB : Below w.heap.size w ((w.alloc (.cells (natC kc pc) 46)).alloc (.cells (natC j q) 46)) := ((Below.refl _ _).alloc (Nat.le_refl _) _).alloc (by simp) _
  simp only [World.size_alloc] at B
  obtain ⟨T, hT0⟩ : ∃ T, T = t + j := ⟨_, rfl⟩
  obtain ⟨T1, hT1⟩ : ∃ T, T = t + j - 1 := ⟨_, rfl⟩
  obtain ⟨T2, hT2⟩ : ∃ T, T = t + j - 2 := ⟨_, rfl⟩
  obtain ⟨j1, hj1⟩ : ∃ T, T = j - 1 := ⟨_, rfl⟩
  obtain ⟨j2, hj2⟩ : ∃ T, T = j - 2 := ⟨_, rfl⟩
  rw [← hT1, ← hT2, ← hT0, ← hj1, ← hj2]
  have b0 := B.c0
  have a0 := A.cs T (by omega)
  have a1 := A.cs T1 (by omega)
  have a2 := A.cs T2 (by omega)
  have b1 := B.cs j1 (by omega)
  have b2 := B.cs j2 (by omega)
  obtain ⟨x0, hx0⟩ : ∃ x, x = pc.getD T 0 := ⟨_, rfl⟩
  obtain ⟨x1, hx1⟩ : ∃ x, x = pc.getD T1 0 := ⟨_, rfl⟩
  obtain ⟨x2, hx2⟩ : ∃ x, x = pc.getD T2 0 := ⟨_, rfl⟩
  obtain ⟨y1, hy1⟩ : ∃ x, x = q.getD j1 0 := ⟨_, rfl⟩
  obtain ⟨y2, hy2⟩ : ∃ x, x = q.getD j2 0 := ⟨_, rfl⟩
  have g0 : 0 ≤ x0 ∧ x0 < 1000000 := by rw [hx0]; exact ⟨hC.lo _, hC.hi _⟩
  have g1 : 0 ≤ x1 ∧ x1 < 1000000 := by rw [hx1]; exact ⟨hC.lo _, hC.hi _⟩
  have g2 : 0 ≤ x2 ∧ x2 < 1000000 := by rw [hx2]; exact ⟨hC.lo _, hC.hi _⟩
  have g3 : 0 < y1 ∧ y1 < 1000000 := by
    rw [hy1]
    have h1 := hM.top (by omega)
    have h2 := hM.lo j1
    rw [← hj1] at h1
    exact ⟨by omega, hM.hi _⟩
  have g4 : 0 ≤ y2 ∧ y2 < 1000000 := by rw [hy2]; exact ⟨hM.lo _, hM.hi _⟩
  rw [← hx0] at a0
  rw [← hx1] at a1
  rw [← hx2] at a2
  rw [← hy1] at b1
  rw [← hy2] at b2
  rw [← hx0, ← hx1, ← hx2, ← hy1, ← hy2]
  obtain ⟨g00, g01⟩ := g0
  obtain ⟨g10, g11⟩ := g1
  obtain ⟨g20, g21⟩ := g2
  obtain ⟨g30, g31⟩ := g3
  obtain ⟨g40, g41⟩ := g4
  have hw0 : IntKind.i64.wrap ((t : Int) + (j : Int)) = (T : Int) := by rw [IntKind.wrap_i64]; omega
  have hw1 : IntKind.i64.wrap ((T : Int) - 1) = (T1 : Int) := by rw [IntKind.wrap_i64]; omega
  have hw2 : IntKind.i64.wrap ((T : Int) - 2) = (T2 : Int) := by rw [IntKind.wrap_i64]; omega
  have hw3 : IntKind.i64.wrap ((j : Int) - 1) = (j1 : Int) := by rw [IntKind.wrap_i64]; omega
  have hw4 : IntKind.i64.wrap ((j : Int) - 2) = (j2 : Int) := by rw [IntKind.wrap_i64]; omega
  have k0 : (T : Int) < 204 := by omega
  have k1 : (T1 : Int) < 204 := by omega
  have k2 : (T2 : Int) < 204 := by omega
  have k3 : (j1 : Int) < 204 := by omega
  have k4 : (j2 : Int) < 204 := by omega
  clear hx0 hx1 hx2 hy1 hy2 hC hM A B hT hT0 hT1 hT2 hj1 hj2 hj hp hq
  go_enter Tryd.func80, Tryd.ntmps80
  go_wp2_with fail
  try simp only [hw0]
  generalize hWW : (w.alloc (.cells (natC kc pc) 46)).alloc (.cells (natC j q) 46) = W at a0 a1 a2 b0 b1 b2 hB ⊢
  clear hWW
  refine wp_region_still_tail 18 (by kernel_rfl) (by kernel_rfl) ?_
  simp only [List.take_succ_cons, List.take_zero, List.drop_succ_cons, List.drop_zero]
  repeat (first | still_step | simp only [hw1, hw2])
  refine wpStill_nil ?_
  go_wp2_with fail
  have hF : IntKind.i64.wrap (IntKind.i64.wrap (IntKind.i64.wrap (IntKind.i64.wrap (x0 * 1000000) + x1) * 1000000) + x2) = (x0 * 1000000 + x1) * 1000000 + x2 := by
    simp only [IntKind.wrap_i64]; omega
  obtain ⟨F, hF'⟩ : ∃ F, F = (x0 * 1000000 + x1) * 1000000 + x2 := ⟨_, rfl⟩
  have hF0 : 0 ≤ F := by omega
  have hF1 : F < 1000000000000000000 := by omega
  rw [← hF'] at hF
  simp only [hF]
  obtain ⟨W2, hW2⟩ : ∃ W2, W2 = W.drew := ⟨_, rfl⟩
  have b0' : W2.cell? ⟨w.heap.size + 1, 0, none⟩ = some (.int .i64 (j : Int)) := by rw [hW2]; exact b0
  have b1' : W2.cell? ⟨w.heap.size + 1, 1 + j1, none⟩ = some (.int .i64 y1) := by rw [hW2]; exact b1
  have b2' : W2.cell? ⟨w.heap.size + 1, 1 + j2, none⟩ = some (.int .i64 y2) := by rw [hW2]; exact b2
  have hB' : Below w.heap.size w W2 := by rw [hW2]; exact hB.drew
  have hWe : ({ heap := W.heap, tape := W.tape, drawn := W.drawn + 1, os := W.os, output := W.output } : World) = W2 := by rw [hW2]; rfl
  rw [hWe]
  have HF' := hide hF'
  obtain ⟨D, hD'⟩ : ∃ D, D = y1 * 1000000 + y2 := ⟨_, rfl⟩
  have hDD : IntKind.i64.wrap (IntKind.i64.wrap (y1 * 1000000) + y2) = D := by simp only [IntKind.wrap_i64]; omega
  have hD0 : 0 < D := by omega
  have HD' := hide hD'
  clear hD'
  clear a0 a1 a2 b0 b1 b2 hw0 hw1 hw2 hF hF' hW2 hB hWe
  refine wp_region_still_tail 16 (by kernel_rfl) (by kernel_rfl) ?_
  simp only [List.take_succ_cons, List.take_zero, List.drop_succ_cons, List.drop_zero]
  repeat (first | still_step | simp only [hw3, hw4])
  refine wpStill_step (fun K hK => ?_)
  have hD1 : (D == 0) = false := by simp; omega
  have hq := IntWalk.i64_quo F D ⟨hF0, by omega, by omega⟩
  go_simp
  rw [if_neg (show ¬ D = 0 by omega)]
  refine ⟨rfl, hK _ ?_⟩
  clear hK K hq
  refine wpStill_nil ?_
  go_wp2
  go_ret
  exact ⟨by rw [← HF'.out, ← HD'.out]; rfl, hB'.drew⟩
end Go.Proofs.YtmfpnbmfcoahbaaDoor

/-
  Lehmer's way to the greatest common divisor: plain facts.
-/
namespace Go.Proofs.YtmfpnbmfcoahbaaDoor
set_option linter.unusedVariables false

/-- Where sureSteps stands: x, y are what the mix makes of X, Y, which N, B begin with. -/
structure Mix (X Y N B x y n1 b1 n2 b2 : Int) : Prop where
  hx : x = n1 * X + b1 * Y
  hy : y = n2 * X + b2 * Y
  a1 : 0 ≤ x + n1
  a2 : 0 ≤ x + b1
  c1 : 0 ≤ y + n2
  c2 : 0 ≤ y + b2
  sg : (0 ≤ n1 ∧ b1 ≤ 0 ∧ n2 ≤ 0 ∧ 0 ≤ b2 ∧ X = b2 * x - b1 * y ∧ Y = n1 * y - n2 * x) ∨ (n1 ≤ 0 ∧ 0 ≤ b1 ∧ 0 ≤ n2 ∧ b2 ≤ 0 ∧ X = b1 * y - b2 * x ∧ Y = n2 * x - n1 * y)
  bd : (-1000000000 ≤ n1 ∧ n1 ≤ 1000000000) ∧ (-1000000000 ≤ b1 ∧ b1 ≤ 1000000000) ∧ (-1000000000 ≤ n2 ∧ n2 ≤ 1000000000) ∧ (-1000000000 ≤ b2 ∧ b2 ≤ 1000000000)
  gc : Int.gcd (n1 * N + b1 * B) (n2 * N + b2 * B) = Int.gcd N B
  xy : x < 1000000000000000000 ∧ y < 1000000000000000000
  st : (n1 = 1 ∧ b1 = 0 ∧ n2 = 0 ∧ b2 = 1) ∨ (n2 * N + b2 * B < n1 * N + b1 * B ∧ n1 * N + b1 * B ≤ B)

theorem Mix.start (X Y N B : Int) (hX : 0 ≤ X) (hY : 0 ≤ Y) (hX1 : X < 1000000000000000000) (hY1 : Y < 1000000000000000000) : Mix X Y N B X Y 1 0 0 1 :=
  ⟨by omega, by omega, by omega, by omega, by omega, by omega, .inl ⟨by omega, by omega, by omega, by omega, by omega, by omega⟩, by omega, by simp, ⟨hX1, hY1⟩, .inl ⟨rfl, rfl, rfl, rfl⟩⟩

/-- Neither of both numbers is below 0. -/
theorem mix_low {X Y S N' B' x n1 b1 : Int} (hx : x = n1 * X + b1 * Y) (a1 : 0 ≤ x + n1) (a2 : 0 ≤ x + b1) (sg : (0 ≤ n1 ∧ b1 ≤ 0) ∨ (n1 ≤ 0 ∧ 0 ≤ b1))
    (hN : 0 ≤ N') (hN1 : N' < S) (hB : 0 ≤ B') (hB1 : B' < S) : 0 ≤ n1 * (X * S + N') + b1 * (Y * S + B') := by
  have e : n1 * (X * S + N') + b1 * (Y * S + B') = x * S + n1 * N' + b1 * B' := by rw [hx]; grind
  rw [e]
  rcases sg with ⟨h1, h2⟩ | ⟨h1, h2⟩
  · have g1 : 0 ≤ (x + b1) * S := Int.mul_nonneg a2 (by omega)
    have g2 : 0 ≤ (-b1) * (S - B') := Int.mul_nonneg (by omega) (by omega)
    have g3 : 0 ≤ n1 * N' := Int.mul_nonneg h1 hN
    grind
  · have g1 : 0 ≤ (x + n1) * S := Int.mul_nonneg a1 (by omega)
    have g2 : 0 ≤ (-n1) * (S - N') := Int.mul_nonneg (by omega) (by omega)
    have g3 : 0 ≤ b1 * B' := Int.mul_nonneg h2 hB
    grind

/-- What is below 0 at both ends is below 0. -/
theorem mix_high {S N' B' z u v : Int} (h1 : z + u ≤ -1) (h2 : z + v ≤ -1) (sg : (0 ≤ u ∧ v ≤ 0) ∨ (u ≤ 0 ∧ 0 ≤ v))
    (hN : 0 ≤ N') (hN1 : N' < S) (hB : 0 ≤ B') (hB1 : B' < S) : z * S + u * N' + v * B' < 0 := by
  rcases sg with ⟨s1, s2⟩ | ⟨s1, s2⟩
  · have g1 : 0 ≤ (-(z + u) - 1) * S := Int.mul_nonneg (by omega) (by omega)
    have g2 : 0 ≤ u * (S - N') := Int.mul_nonneg s1 (by omega)
    have g3 : 0 ≤ (-v) * B' := Int.mul_nonneg (by omega) hB
    grind
  · have g1 : 0 ≤ (-(z + v) - 1) * S := Int.mul_nonneg (by omega) (by omega)
    have g2 : 0 ≤ v * (S - B') := Int.mul_nonneg s2 (by omega)
    have g3 : 0 ≤ (-u) * N' := Int.mul_nonneg (by omega) hN
    grind

theorem sq_bound {a x Z : Int} (h0 : 0 ≤ a) (h1 : a ≤ x) (h2 : a * x ≤ Z) (hZ : Z < 1000000000000000000) : a ≤ 1000000000 := by
  rcases Int.lt_or_le 1000000000 a with h | h
  · have g1 : 0 ≤ a * (x - a) := Int.mul_nonneg h0 (by omega)
    have g2 : 0 ≤ (a - 1000000000) * (a - 1000000000) := Int.mul_nonneg (by omega) (by omega)
    grind
  · exact h

/-- One step more. -/
theorem Mix.step {X Y S N' B' x y n1 b1 n2 b2 q : Int} (h : Mix X Y (X * S + N') (Y * S + B') x y n1 b1 n2 b2) (hX1 : X < 1000000000000000000) (hY1 : Y < 1000000000000000000)
    (hN : 0 ≤ N') (hN1 : N' < S) (hB : 0 ≤ B') (hB1 : B' < S) (d1 : y + n2 ≠ 0) (d2 : y + b2 ≠ 0) (q1 : (x + n1) / (y + n2) = q) (q2 : (x + b1) / (y + b2) = q) :
    Mix X Y (X * S + N') (Y * S + B') y (x - q * y) n2 b2 (n1 - q * n2) (b1 - q * b2) ∧ 0 ≤ q ∧ 0 ≤ x - q * y ∧ 0 ≤ q * y ∧ 0 ≤ y ∧ x - q * y < y := by
  obtain ⟨hx, hy, a1, a2, c1, c2, sg, bd, gc, xy, st⟩ := h
  have p1 : 0 < y + n2 := by omega
  have p2 : 0 < y + b2 := by omega
  have e1 := Int.mul_ediv_add_emod (x + n1) (y + n2)
  have e2 := Int.mul_ediv_add_emod (x + b1) (y + b2)
  have l1 := Int.emod_nonneg (x + n1) d1
  have l2 := Int.emod_nonneg (x + b1) d2
  have u1 := Int.emod_lt_of_pos (x + n1) p1
  have u2 := Int.emod_lt_of_pos (x + b1) p2
  have q0 : 0 ≤ q := by rw [← q1]; exact Int.ediv_nonneg a1 c1
  rw [q1] at e1
  rw [q2] at e2
  generalize (x + n1) % (y + n2) = r1 at *
  generalize (x + b1) % (y + b2) = r2 at *
  have f1 : (x - q * y) + (n1 - q * n2) = r1 := by grind
  have f2 : (x - q * y) + (b1 - q * b2) = r2 := by grind
  have y0 : 0 ≤ y := by rcases sg with s | s <;> omega
  have s0 : 0 ≤ q * y := Int.mul_nonneg q0 y0
  -- the new mix's signs
  have ns : (0 ≤ n2 ∧ b2 ≤ 0 ∧ n1 - q * n2 ≤ 0 ∧ 0 ≤ b1 - q * b2 ∧ X = (b1 - q * b2) * y - b2 * (x - q * y) ∧ Y = n2 * (x - q * y) - (n1 - q * n2) * y) ∨ (n2 ≤ 0 ∧ 0 ≤ b2 ∧ 0 ≤ n1 - q * n2 ∧ b1 - q * b2 ≤ 0 ∧ X = b2 * (x - q * y) - (b1 - q * b2) * y ∧ Y = (n1 - q * n2) * y - n2 * (x - q * y)) := by
    rcases sg with ⟨s1, s2, s3, s4, s5, s6⟩ | ⟨s1, s2, s3, s4, s5, s6⟩
    · right
      have t1 : 0 ≤ q * (-n2) := Int.mul_nonneg q0 (by omega)
      have t2 : 0 ≤ q * b2 := Int.mul_nonneg q0 s4
      exact ⟨s3, s4, by grind, by grind, by rw [s5]; grind, by rw [s6]; grind⟩
    · left
      have t1 : 0 ≤ q * n2 := Int.mul_nonneg q0 s3
      have t2 : 0 ≤ q * (-b2) := Int.mul_nonneg q0 (by omega)
      exact ⟨s3, s4, by grind, by grind, by rw [s5]; grind, by rw [s6]; grind⟩
  generalize hn : n1 - q * n2 = n3 at *
  generalize hb : b1 - q * b2 = b3 at *
  generalize hz : x - q * y = z at *
  have z0 : 0 ≤ z := by rcases ns with s | s <;> omega
  have zy : z < y := by rcases ns with s | s <;> omega
  have bd3 : (-1000000000 ≤ n3 ∧ n3 ≤ 1000000000) ∧ (-1000000000 ≤ b3 ∧ b3 ≤ 1000000000) := by
    rcases ns with ⟨s1, s2, s3, s4, s5, s6⟩ | ⟨s1, s2, s3, s4, s5, s6⟩
    · have t1 : 0 ≤ n2 * z := Int.mul_nonneg s1 z0
      have t2 : 0 ≤ (-b2) * z := Int.mul_nonneg (by omega) z0
      have v1 := sq_bound (a := -n3) (x := y) (Z := Y) (by omega) (by omega) (by grind) hY1
      have v2 := sq_bound (a := b3) (x := y) (Z := X) (by omega) (by omega) (by grind) hX1
      omega
    · have t1 : 0 ≤ (-n2) * z := Int.mul_nonneg (by omega) z0
      have t2 : 0 ≤ b2 * z := Int.mul_nonneg s2 z0
      have v1 := sq_bound (a := n3) (x := y) (Z := Y) (by omega) (by omega) (by grind) hY1
      have v2 := sq_bound (a := -b3) (x := y) (Z := X) (by omega) (by omega) (by grind) hX1
      omega
  refine ⟨⟨hy, by rw [← hz, ← hn, ← hb, hx, hy]; grind, c1, c2, by omega, by omega, ns, ⟨bd.2.2.1, bd.2.2.2, bd3.1, bd3.2⟩, ?_, ⟨xy.2, by omega⟩, .inr ?_⟩, q0, z0, s0, y0, zy⟩
  · rw [← gc, Int.gcd_comm]
    have e : n3 * (X * S + N') + b3 * (Y * S + B') = (n1 * (X * S + N') + b1 * (Y * S + B')) + (-q) * (n2 * (X * S + N') + b2 * (Y * S + B')) := by rw [← hn, ← hb]; grind
    rw [e]
    exact Int.gcd_add_mul_right_left ..
  · have m1 : n3 * (X * S + N') + b3 * (Y * S + B') < n2 * (X * S + N') + b2 * (Y * S + B') := by
      have g := mix_high (S := S) (N' := N') (B' := B') (z := z - y) (u := n3 - n2) (v := b3 - b2) (by omega) (by omega) (by rcases ns with s | s <;> omega) hN hN1 hB hB1
      have e : n3 * (X * S + N') + b3 * (Y * S + B') - (n2 * (X * S + N') + b2 * (Y * S + B')) = (z - y) * S + (n3 - n2) * N' + (b3 - b2) * B' := by
        have : z = n3 * X + b3 * Y := by rw [← hz, ← hn, ← hb, hx, hy]; grind
        rw [this, hy]; grind
      omega
    refine ⟨m1, ?_⟩
    rcases st with ⟨t1, t2, t3, t4⟩ | ⟨t1, t2⟩
    · subst t1 t2 t3 t4; omega
    · omega

/-- A number by its first three parts and what stands behind. -/
theorem lead_split {n k : Nat} {p : List Int} (h : Rep n k p) (T : Nat) (hk : k ≤ T + 3) (hT : T + 3 ≤ 204) :
    ∃ r : Int, 0 ≤ r ∧ r < 1000000 ^ T ∧ (n : Int) = ((p.getD (T + 2) 0 * 1000000 + p.getD (T + 1) 0) * 1000000 + p.getD T 0) * 1000000 ^ T + r := by
  have hl := h.len
  have b := vb_lt 1000000 (by omega) (p.take T) T (fun j => by rw [getD_take]; split; exact h.lo j; omega) (fun j => by rw [getD_take]; split; exact h.hi j; omega) (fun j hj => by rw [getD_take, if_neg (by omega)])
  refine ⟨vb 1000000 (p.take T), b.1, b.2, ?_⟩
  rw [← h.val, vb_split 1000000 p T (by omega), drop_val6 p T (by omega), drop_val6 p (T + 1) (by omega), drop_val6 p (T + 1 + 1) (by omega),
    vb_zero 1000000 (p.drop (T + 1 + 1 + 1)) (fun i => by rw [getD_drop]; exact h.out _ (by omega))]
  generalize vb 1000000 (p.take T) = r
  generalize (1000000 : Int) ^ T = S
  generalize p.getD T 0 = a
  generalize p.getD (T + 1) 0 = b
  show _ = ((p.getD (T + 1 + 1) 0 * 1000000 + b) * 1000000 + a) * S + r
  generalize p.getD (T + 1 + 1) 0 = c
  grind

theorem lead_bd {n k : Nat} {p : List Int} (h : Rep n k p) (a b c : Nat) :
    0 ≤ (p.getD a 0 * 1000000 + p.getD b 0) * 1000000 + p.getD c 0 ∧ (p.getD a 0 * 1000000 + p.getD b 0) * 1000000 + p.getD c 0 < 1000000000000000000 := by
  have := h.lo a; have := h.hi a; have := h.lo b; have := h.hi b; have := h.lo c; have := h.hi c
  omega

/-- x times the parts of p below j and y times those of q. -/
def combTo (p q : List Int) (x y : Int) : Nat → List Int
  | 0 => p
  | j + 1 => (combTo p q x y j).set j (x * (combTo p q x y j).getD j 0 + y * q.getD j 0)

theorem combTo_len (p q : List Int) (x y : Int) (j : Nat) : (combTo p q x y j).length = p.length := by
  induction j with
  | zero => rfl
  | succ j ih => simp [combTo, ih]
theorem combTo_get (p q : List Int) (x y : Int) (j i : Nat) (hj : j ≤ p.length) : (combTo p q x y j).getD i 0 = if i < j then x * p.getD i 0 + y * q.getD i 0 else p.getD i 0 := by
  induction j with
  | zero => simp [combTo]
  | succ j ih =>
    unfold combTo
    rw [getD_set _ _ _ _ (by rw [combTo_len]; omega)]
    by_cases e : i = j
    · subst e; rw [if_pos rfl, ih (by omega), if_neg (by omega), if_pos (by omega)]
    · rw [if_neg e, ih (by omega)]
      by_cases h : i < j
      · rw [if_pos h, if_pos (by omega)]
      · rw [if_neg h, if_neg (by omega)]
theorem combTo_val (p q : List Int) (x y : Int) (j : Nat) (hj : j ≤ p.length) (hq : j ≤ q.length) :
    vb 1000000 (combTo p q x y j) = x * vb 1000000 (p.take j) + y * vb 1000000 (q.take j) + 1000000 ^ j * vb 1000000 (p.drop j) := by
  induction j with
  | zero => simp [combTo, vb]
  | succ j ih =>
    unfold combTo
    rw [vb_set _ _ _ _ (by rw [combTo_len]; omega), ih (by omega) (by omega), List.take_succ_eq_append_getElem (by omega), List.take_succ_eq_append_getElem (l := q) (by omega), vb_snoc, vb_snoc, drop_val6 p j (by omega), combTo_get _ _ _ _ _ _ (by omega), if_neg (by omega)]
    have e1 : q.getD j 0 = q[j] := by simp [List.getD, show j < q.length by omega]
    have e2 : p.getD j 0 = p[j] := by simp [List.getD, show j < p.length by omega]
    rw [e1, e2, List.length_take, List.length_take, Nat.min_eq_left (by omega), Nat.min_eq_left (by omega), Int.pow_succ]
    generalize (1000000 : Int) ^ j = S
    generalize vb 1000000 (List.take j p) = u
    generalize vb 1000000 (List.take j q) = v
    generalize vb 1000000 (List.drop (j + 1) p) = z
    generalize p[j] = a
    generalize q[j] = b
    grind
theorem comb_val {n m k j : Nat} {p q : List Int} (hP : Rep n k p) (hQ : Rep m j q) (x y : Int) (t : Nat) (ht : t ≤ 204) (hk : k ≤ t) (hj : j ≤ t) :
    vb 1000000 (combTo p q x y t) = x * (n : Int) + y * (m : Int) := by
  have hp := hP.len
  have hq := hQ.len
  rw [combTo_val _ _ _ _ _ (by omega) (by omega), vb_zero 1000000 (p.drop t) (fun i => by rw [getD_drop]; exact hP.out _ (by omega))]
  have e1 : vb 1000000 (p.take t) = (n : Int) := by
    rw [← hP.val, vb_split 1000000 p t (by omega), vb_zero 1000000 (p.drop t) (fun i => by rw [getD_drop]; exact hP.out _ (by omega))]; simp
  have e2 : vb 1000000 (q.take t) = (m : Int) := by
    rw [← hQ.val, vb_split 1000000 q t (by omega), vb_zero 1000000 (q.drop t) (fun i => by rw [getD_drop]; exact hQ.out _ (by omega))]; simp
  rw [e1, e2]; simp

/-- A product of a mix and a part fits by far. -/
theorem mixPart_bd {x a : Int} (hx : -1000000000 ≤ x ∧ x ≤ 1000000000) (h0 : 0 ≤ a) (h1 : a < 1000000) : -1000000000000000 ≤ x * a ∧ x * a ≤ 1000000000000000 := by
  have g1 : 0 ≤ (x + 1000000000) * a := Int.mul_nonneg (by omega) h0
  have g2 : 0 ≤ (1000000000 - x) * a := Int.mul_nonneg (by omega) h0
  constructor
  · grind
  · grind
theorem Mix.y0 {X Y N B x y n1 b1 n2 b2 : Int} (h : Mix X Y N B x y n1 b1 n2 b2) : 0 ≤ y := by
  have := h.c1; have := h.c2
  rcases h.sg with s | s <;> omega
theorem Mix.x0 {X Y N B x y n1 b1 n2 b2 : Int} (h : Mix X Y N B x y n1 b1 n2 b2) : 0 ≤ x := by
  have := h.a1; have := h.a2
  rcases h.sg with s | s <;> omega
end Go.Proofs.YtmfpnbmfcoahbaaDoor
