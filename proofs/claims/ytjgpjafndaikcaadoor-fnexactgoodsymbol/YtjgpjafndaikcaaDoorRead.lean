/-
  What impl.digitOf, readNat and readNats answer: a natural number's text as parts.
-/
import Derived.Test.YtjgpjafndaikcaaDoorParts
import Derived.Test.YtjgpjafndaikcaaDoorRep
import Derived.StillTailTactics
import Derived.Laws.ResultCell
namespace Go.Proofs.YtjgpjafndaikcaaDoor
open Go.RowKit
set_option linter.unusedVariables false

/-- What a digit of any radix is worth. -/
def digI (n : Int) : Int := if 48 ≤ n ∧ n ≤ 57 then n - 48 else if 97 ≤ n ∧ n ≤ 102 then n - 87 else if 65 ≤ n ∧ n ≤ 70 then n - 55 else 16

theorem digitOf_dig (n : Int) (w : World) (h0 : 48 ≤ n) (h1 : n ≤ 57) :
    Calls Tryd.prog 25 #[.int .u8 n] w fun e w' => e = .returned (.int .i64 (n - 48)) ∧ w' = w := by
  go_enter Tryd.func25, Tryd.ntmps25
  go_wp2
  go_ret
  exact ⟨rfl, rfl⟩

/-- All parts 0. -/
def zP : List Int := List.replicate 204 0
theorem zP_len : zP.length = 204 := List.length_replicate
theorem zP_get (i : Nat) : zP.getD i 0 = 0 := by
  unfold zP; simp only [List.getD, List.getElem?_replicate]; split <;> rfl

theorem zero_nat : (∀ w, (zeroValue 35).run Tryd.prog w = .ok (.agg (natC 0 zP)) w) ∧ (Tryd.prog.info? 35).map (·.size) = some 205 := zero_of_info (by kernel_rfl)

theorem nat_info (u : Int) (p : List Int) (h : p.length = 204) : (Tryd.prog.info? 35).map (·.size) = some (natC u p).size := by
  rw [zero_nat.2, natC_size, h]

/-- A nat is read whole. -/
theorem load_nat {ops : Array Oper} {rest : List Oper} {o : Oper} {a : Act} {w : World} {Q : Exit → Act → World → Prop} (hgd : o.guard = none) (x : Operand) (ho : o.op = .load 35 x)
    (b : Nat) (hx : a.eval x = .pointer (some ⟨b, 0, none⟩)) (u : Int) (p : List Int) (hN : NatAt w b u p) (hl : p.length = 204)
    (h : wpList Tryd.prog ops Q rest (a.put o.dst (.agg (natC u p))) w) : wpList Tryd.prog ops Q (o :: rest) a w :=
  wpList_load_row hgd 35 x ho b hx 35 (natC u p) (0, 0) _ hN Tryd.underlying35 rfl (nat_info u p hl) h

/-- A nat is written whole. -/
theorem store_nat {ops : Array Oper} {rest : List Oper} {o : Oper} {a : Act} {w : World} {Q : Exit → Act → World → Prop} (hgd : o.guard = none) (x y : Operand) (ho : o.op = .store 35 x y) (hd : o.dst = none)
    (b : Nat) (u : Int) (p : List Int) (hx : a.eval x = .pointer (some ⟨b, 0, none⟩)) (hy : a.eval y = .agg (natC u p)) (u0 : Int) (p0 : List Int) (hN : NatAt w b u0 p0) (h0 : p0.length = 204) (hl : p.length = 204)
    (h : ∀ w', NatAt w' b u p → w.grownBy w' (some b) → w'.heap.size = w.heap.size → wpList Tryd.prog ops Q rest a w') : wpList Tryd.prog ops Q (o :: rest) a w := by
  refine wpList_store_row hgd 35 x y ho b (natC u p) hx hy 35 (natC u0 p0) hN (nat_info u p hl) (by rw [natC_size, natC_size, h0, hl]) (natC_one _ _) ?_
  rw [hd]
  refine h _ (setRow_heap w b _ _ _ _ hN) ⟨rfl, rfl, rfl, by simp, fun k _ hne => ?_⟩ (by simp)
  exact setRow_other w b k _ (by intro e; exact hne (by rw [e]))

theorem res_nat_tmp {fn : Func} {x u : Tmp} (h : fn.results = #[.cell x 35, .tmp u]) (tmps : Array Value) (w : World) (b : Nat) (n : Int) (p : List Int) (v : Value)
    (hp : tmps.getD x undef = .pointer (some ⟨b, 0, none⟩)) (hv : tmps.getD u undef = v) (hN : NatAt w b n p) (hl : p.length = 204) : (results fn tmps).run Tryd.prog w = .ok (.tuple #[.agg (natC n p), v]) w := by
  rw [results_cell_tmp h, hp, hv]
  simp only [asAddr, Sem.run_pure, Result.andThen, run_loadVar_row w b 35 35 (natC n p) (0, 0) _ hN Tryd.underlying35 rfl (nat_info n p hl)]

theorem NatAt.new (w : World) (u : Int) (p : List Int) : NatAt (w.alloc (.cells (natC u p) 35)) w.heap.size u p := heap_alloc_new _ _
theorem NatAt.old {w : World} {b : Nat} {u : Int} {p : List Int} (h : NatAt w b u p) (o : Obj) : NatAt (w.alloc o) b u p := by
  unfold NatAt; rw [Below.heap_alloc _ _ _ h.lt]; exact h
theorem NatAt.grown {w w' : World} {b : Nat} {u : Int} {p : List Int} {r : Option Nat} (h : NatAt w b u p) (hg : w.grownBy w' r) (hr : some b ≠ r) : NatAt w' b u p := by
  unfold NatAt; rw [hg.block b h.lt hr]; exact h
theorem NatAt.below {w w' : World} {b B : Nat} {u : Int} {p : List Int} (h : NatAt w b u p) (hg : Below B w w') (hr : b < B) : NatAt w' b u p := by
  unfold NatAt; rw [hg.block b hr]; exact h

/-! ### The loop of readNat, in plain words -/
/-- After j rounds: the last 6 j digits lie in the first j parts. -/
structure Got (l : List UInt8) (j : Nat) (p : List Int) : Prop where
  len : p.length = 204
  lo : ∀ i, 0 ≤ p.getD i 0
  hi : ∀ i, p.getD i 0 < 1000000
  out : ∀ i, j ≤ i → p.getD i 0 = 0
  val : vb 1000000 p = (dval (l.drop (l.length - 6 * j)) : Int)

theorem getD_set (p : List Int) (j i : Nat) (v : Int) (h : j < p.length) : (p.set j v).getD i 0 = if i = j then v else p.getD i 0 := by
  simp only [List.getD, List.getElem?_set]
  by_cases e : j = i
  · subst e; simp [h]
  · rw [if_neg e, if_neg (fun h => e h.symm)]

theorem Got.zero (l : List UInt8) : Got l 0 zP :=
  ⟨zP_len, fun i => by rw [zP_get]; omega, fun i => by rw [zP_get]; omega, fun i _ => zP_get i, by
    rw [vb_zero _ _ zP_get]; simp [dval]⟩

theorem dval_le_part {l : List UInt8} (h : l.all isDig = true) (hl : l.length ≤ 6) : (dval l : Int) < 1000000 := by
  have h1 := dval_lt l h
  have : 10 ^ l.length ≤ 10 ^ 6 := Nat.pow_le_pow_right (by omega) hl
  omega

theorem all_sub {l : List UInt8} (h : l.all isDig = true) (f e : Nat) : ((l.take e).drop f).all isDig = true := by
  rw [List.all_eq_true] at *
  intro x hx
  exact h x (List.mem_of_mem_take (List.mem_of_mem_drop hx))

theorem Got.step {l : List UInt8} {j : Nat} {p : List Int} (h : Got l j p) (hl : l.all isDig = true) (hj : j < 204) (he : 6 * j < l.length) :
    Got l (j + 1) (p.set j (dval ((l.take (l.length - 6 * j)).drop (l.length - 6 * (j + 1))))) := by
  have hd := all_sub hl (l.length - 6 * (j + 1)) (l.length - 6 * j)
  have hb := dval_le_part hd (by simp; omega)
  refine ⟨by simp [h.len], fun i => ?_, fun i => ?_, fun i hi => ?_, ?_⟩
  · rw [getD_set _ _ _ _ (by rw [h.len]; exact hj)]; split
    · omega
    · exact h.lo i
  · rw [getD_set _ _ _ _ (by rw [h.len]; exact hj)]; split
    · exact hb
    · exact h.hi i
  · rw [getD_set _ _ _ _ (by rw [h.len]; exact hj), if_neg (by omega)]; exact h.out i (by omega)
  · rw [vb_set _ _ _ _ (by rw [h.len]; exact hj), h.val, h.out j (Nat.le_refl _)]
    have e1 : l.drop (l.length - 6 * (j + 1)) = (l.take (l.length - 6 * j)).drop (l.length - 6 * (j + 1)) ++ l.drop (l.length - 6 * j) := by
      conv => lhs; rw [← List.take_append_drop (l.length - 6 * j) l]
      rw [List.drop_append_of_le_length (by simp; omega)]
      simp
    rw [e1, dval_append]
    have e2 : (l.drop (l.length - 6 * j)).length = 6 * j := by simp; omega
    rw [e2]
    have e3 : (1000000 : Int) ^ j = ((10 ^ (6 * j) : Nat) : Int) := by
      rw [Nat.pow_mul]; simp
    rw [e3]
    simp only [Int.natCast_add, Int.natCast_mul, Int.sub_zero]
    rw [Int.mul_comm]; omega

/-- What an inner round adds to a part. -/
theorem part_step (l : List UInt8) (f a : Nat) (h : f ≤ a) (ha : a < l.length) (hd : l.all isDig = true) :
    (dval ((l.take (a + 1)).drop f) : Int) = dval ((l.take a).drop f) * 10 + (((l[a].toNat : Nat) : Int) - 48) := by
  rw [List.take_succ_eq_append_getElem ha, List.drop_append_of_le_length (by simp; omega), dval_snoc]
  have := isDig_bd (List.all_eq_true.1 hd l[a] (List.getElem_mem ha))
  unfold dv; omega
theorem part_none (l : List UInt8) (f : Nat) : dval ((l.take f).drop f) = 0 := by
  rw [List.drop_take]; simp [dval]

theorem set_same (p : List Int) (j : Nat) (h : p.getD j 0 = 0) : p.set j 0 = p := by
  apply List.ext_getElem (by simp)
  intro i h1 h2
  rw [List.getElem_set]; split
  · rename_i e; subst e; simp [List.getD, h2] at h; exact h.symm
  · rfl

theorem r0 (w : World) {b : Option Nat} : w.grownBy w b := ⟨rfl, rfl, rfl, Nat.le_refl _, fun _ _ _ => rfl⟩

theorem trimTo_le (p : List Int) (k : Nat) : trimTo p k ≤ k := by
  induction k with
  | zero => exact Nat.le_refl _
  | succ k ih => unfold trimTo; split <;> omega
theorem trimTo_out (p : List Int) (k : Nat) (h : ∀ i, k ≤ i → p.getD i 0 = 0) : ∀ i, trimTo p k ≤ i → p.getD i 0 = 0 := by
  induction k with
  | zero => intro i _; exact h i (Nat.zero_le _)
  | succ k ih =>
    unfold trimTo; split
    · rename_i hz
      exact ih (fun i hi => by
        by_cases e : i = k
        · rw [e]; exact hz
        · exact h i (by omega))
    · exact h
theorem trimTo_top (p : List Int) (k : Nat) : 0 < trimTo p k → p.getD (trimTo p k - 1) 0 ≠ 0 := by
  induction k with
  | zero => intro h; simp [trimTo] at h
  | succ k ih =>
    unfold trimTo; split
    · exact ih
    · rename_i hz; intro _; simpa using hz

/-- Parts within their bounds, trimmed, are a number's. -/
theorem Rep.mk' {n k : Nat} {p : List Int} (hl : p.length = 204) (hk : k ≤ 204) (lo : ∀ i, 0 ≤ p.getD i 0) (hi : ∀ i, p.getD i 0 < 1000000) (out : ∀ i, k ≤ i → p.getD i 0 = 0) (hv : vb 1000000 p = (n : Int)) : Rep n (trimTo p k) p :=
  ⟨hl, Nat.le_trans (trimTo_le p k) hk, lo, hi, trimTo_out p k out, trimTo_top p k, hv⟩

/-- What readNat answers, in one word. -/
def Read (s : ByteArray) (k : Nat) (p : List Int) (ok : Bool) : Prop := (goodB s.data.toList = true ∧ ok = true ∧ Rep (dval s.data.toList) k p) ∨ (goodB s.data.toList = false ∧ ok = false ∧ k = 0 ∧ p = zP)

theorem Read.len {s : ByteArray} {k : Nat} {p : List Int} {ok : Bool} (h : Read s k p ok) : p.length = 204 := by
  rcases h with ⟨_, _, h⟩ | ⟨_, _, _, rfl⟩
  · exact h.len
  · exact zP_len
theorem Read.ok {s : ByteArray} {k : Nat} {p : List Int} {ok : Bool} (h : Read s k p ok) : ok = goodB s.data.toList := by
  rcases h with ⟨h1, h2, h⟩ | ⟨h1, h2, _⟩ <;> rw [h1, h2]

theorem Read.rep {s : ByteArray} {k : Nat} {p : List Int} {ok : Bool} (h : Read s k p ok) (hg : goodB s.data.toList = true) : Rep (dval s.data.toList) k p := by
  rcases h with ⟨_, _, h⟩ | ⟨h, _⟩
  · exact h
  · rw [hg] at h; cases h

end Go.Proofs.YtjgpjafndaikcaaDoor
