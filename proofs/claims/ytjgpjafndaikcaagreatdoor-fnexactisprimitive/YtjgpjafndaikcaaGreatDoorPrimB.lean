/-
  What IsPrimitive answers, in impl and in the model.
-/
import Derived.Test.YtjgpjafndaikcaaGreatDoorPrim
namespace Go.Proofs.YtjgpjafndaikcaaGreatDoor
open Go.RowKit
set_option linter.unusedVariables false

theorem look_op {w : World} (t : TypeId) (kt et : TypeId) (ht : Tryz.prog.underlying t = some (.map kt et)) (hkt : Tryz.prog.underlying kt = some .string) (z : Array Value) (hz : (zeroValue et).run Tryz.prog w = .ok (.agg z) w) (hz4 : z.size = 4) (hz1 : z.all (·.oneCell') = true)
    (r : Nat) (s : ByteArray) (ks : List ByteArray) (hM : OpMap w r ks) :
    ∃ cs : Array Value, (Instr.lookup t (.map (some r)) (.string s) true).run Tryz.prog w = .ok (.tuple #[.agg cs, .bool (inL ks s)]) w ∧ cs.size = 4 ∧ cs.all (·.oneCell') = true := by
  obtain ⟨es, clock, hb, hkeys, hvals⟩ := hM
  have hc : ∀ b, (Instr.checkKey b 10000 kt (.string s)).run Tryz.prog w = .ok () w := fun b => MapKept.run_checkKey (k := .string s) hkt (by simp [MapKept.IsKey]) b 9999
  cases hin : inL ks s with
  | false =>
    have hf := (find_str s es.toList ks 0 hkeys).1 hin
    refine ⟨z, ?_, hz4, hz1⟩
    simp [Instr.lookup, run_underlying ht, MapKept.run_getObj_map hb, hc, MapKept.run_findKey hkt hf, hz, Result.andThen]
  | true =>
    obtain ⟨j, e, he, hf⟩ := (find_str s es.toList ks 0 hkeys).2 hin
    obtain ⟨cs, hv, h4, h1⟩ := hvals e he
    rw [hv] at hf
    refine ⟨cs, ?_, h4, h1⟩
    simp [Instr.lookup, run_underlying ht, MapKept.run_getObj_map hb, hc, MapKept.run_findKey hkt hf, Result.andThen]

def OpAt (w : World) (b : Nat) (cs : Array Value) : Prop := w.heap[b]? = some (.cells cs 56 (0, 0))

theorem store_op {ops : Array Oper} {rest : List Oper} {o : Oper} {a : Act} {w : World} {Q : Exit → Act → World → Prop} (hgd : o.guard = none) (x y : Operand) (ho : o.op = .store 56 x y) (hd : o.dst = none)
    (b : Nat) (cs : Array Value) (hx : a.eval x = .pointer (some ⟨b, 0, none⟩)) (hy : a.eval y = .agg cs) (h4 : cs.size = 4) (h1 : cs.all (·.oneCell') = true) (c0 : Array Value) (h0 : c0.size = 4) (hN : OpAt w b c0)
    (h : ∀ w', w.grownBy w' (some b) → w'.heap.size = w.heap.size → wpList Tryz.prog ops Q rest a w') : wpList Tryz.prog ops Q (o :: rest) a w := by
  refine wpList_store_row hgd 56 x y ho b cs hx hy 56 c0 hN (by rw [zero_op.2, h4]) (by rw [h0, h4]) h1 ?_
  rw [hd]
  exact h _ ⟨rfl, rfl, rfl, by simp, fun k _ hne => setRow_other w b k _ (by intro e; exact hne (by rw [e]))⟩ (by simp)

set_option maxHeartbeats 2000000 in
set_option maxRecDepth 100000 in
theorem implIsPrimitive_any (s : ByteArray) (w : World) : Calls Tryz.prog 17 #[.string s] w fun e w' => e = .returned (.bool (inL opL s)) ∧ Below w.heap.size w w' := by
  have hz := zero_op.1
  go_enter Tryz.func17, Tryz.ntmps17
  go_wp2_with fail
  refine (operations_any _).mono ?_
  rintro e w1 ⟨r, rfl, hM, hr, hB⟩
  obtain ⟨cs, hl, h4, h1⟩ := look_op 58 9 56 Tryz.underlying58 Tryz.underlying9 _ (zero_op.1 w1) rfl (op_one rfl rfl rfl rfl) r s opL hM
  obtain ⟨o, ho⟩ : ∃ o, o = inL opL s := ⟨_, rfl⟩
  rw [← ho] at hl
  have HO : Hid (o = inL opL s) := ho
  have N : OpAt (w1.alloc (.cells #[.int .i64 0, .int .i64 0, .nilFunc, .nilFunc] 56)) w1.heap.size #[.int .i64 0, .int .i64 0, .nilFunc, .nilFunc] := heap_alloc_new _ _
  have hC : Below w.heap.size w (w1.alloc (.cells #[.int .i64 0, .int .i64 0, .nilFunc, .nilFunc] 56)) := hB.alloc hB.size _
  have hs := hB.size
  clear ho hM hB
  go_wp2_with (refine store_op rfl _ _ rfl rfl w1.heap.size cs rfl rfl h4 h1 _ rfl N ?_; intro w2 hg hs2)
  have hD : Below w.heap.size w w2 := hC.grown hg (by simp; omega) (by intro k hk; cases hk; omega)
  go_wp2
  go_ret
  exact ⟨by rw [← HO.out]; rfl, hD⟩

theorem opL_any (s : ByteArray) : inL opL s = ((s.toList == [43]) || ((s.toList == [42]) || ((s.toList == [45]) || ((s.toList == [47]) || ((s.toList == [61]) || ((s.toList == [60]) || ((s.toList == [62]) || ((s.toList == [60, 61]) || ((s.toList == [62, 61]) || ((s.toList == [113, 117, 111, 116, 105, 101, 110, 116]) || ((s.toList == [114, 101, 109, 97, 105, 110, 100, 101, 114]) || ((s.toList == [102, 108, 111, 111, 114]) || ((s.toList == [99, 111, 110, 115]) || ((s.toList == [99, 97, 114]) || ((s.toList == [99, 100, 114]) || ((s.toList == [108, 105, 115, 116]) || ((s.toList == [110, 117, 108, 108, 63]) || ((s.toList == [112, 97, 105, 114, 63]) || ((s.toList == [110, 117, 109, 98, 101, 114, 63]) || ((s.toList == [115, 121, 109, 98, 111, 108, 63]) || ((s.toList == [115, 116, 114, 105, 110, 103, 63]) || ((s.toList == [98, 111, 111, 108, 101, 97, 110, 63]) || ((s.toList == [112, 114, 111, 99, 101, 100, 117, 114, 101, 63]) || ((s.toList == [110, 111, 116]) || ((s.toList == [101, 113, 63]) || ((s.toList == [101, 113, 117, 97, 108, 63]) || ((s.toList == [108, 101, 110, 103, 116, 104]) || ((s.toList == [97, 112, 112, 101, 110, 100]) || ((s.toList == [114, 101, 118, 101, 114, 115, 101]) || ((s.toList == [100, 105, 115, 112, 108, 97, 121]) || ((s.toList == [119, 114, 105, 116, 101]) || ((s.toList == [110, 101, 119, 108, 105, 110, 101]) || ((s.toList == [97, 112, 112, 108, 121]) || ((s.toList == [99, 97, 108, 108, 47, 99, 99]))))))))))))))))))))))))))))))))))) := by
  simp only [inL, opL, List.any_cons, List.any_nil, Bool.or_false]
  simp only [tl_lit, tl_swap s]

/-- What the model's arities say. -/
def ArOk (s : ByteArray) (e : Ending) : Prop := ∃ n : Int, e = .returned (.int .i64 n) ∧ (n != 0) = inL opL s

set_option maxHeartbeats 20000000 in
set_option maxRecDepth 100000 in
theorem arity_any (s : ByteArray) (w : World) : Calls Tryz.prog 34 #[.string s] w fun e w' => ArOk s e ∧ w' = w := by
  cases g0 : (s.toList == [43]) with
  | true =>
    have HI : Hid (inL opL s = true) := by
      unfold Hid
      rw [opL_any, g0]
      simp
    go_enter Tryz.func34, Tryz.ntmps34
    go_wp2
    go_ret
    exact ⟨⟨_, rfl, HI.out.symm⟩, rfl⟩
  | false =>
  cases g1 : (s.toList == [42]) with
  | true =>
    have HI : Hid (inL opL s = true) := by
      unfold Hid
      rw [opL_any, g1]
      simp
    go_enter Tryz.func34, Tryz.ntmps34
    go_wp2
    go_ret
    exact ⟨⟨_, rfl, HI.out.symm⟩, rfl⟩
  | false =>
  cases g2 : (s.toList == [108, 105, 115, 116]) with
  | true =>
    have HI : Hid (inL opL s = true) := by
      unfold Hid
      rw [opL_any, g2]
      simp
    go_enter Tryz.func34, Tryz.ntmps34
    go_wp2
    go_ret
    exact ⟨⟨_, rfl, HI.out.symm⟩, rfl⟩
  | false =>
  cases g3 : (s.toList == [45]) with
  | true =>
    have HI : Hid (inL opL s = true) := by
      unfold Hid
      rw [opL_any, g3]
      simp
    go_enter Tryz.func34, Tryz.ntmps34
    go_wp2
    go_ret
    exact ⟨⟨_, rfl, HI.out.symm⟩, rfl⟩
  | false =>
  cases g4 : (s.toList == [47]) with
  | true =>
    have HI : Hid (inL opL s = true) := by
      unfold Hid
      rw [opL_any, g4]
      simp
    go_enter Tryz.func34, Tryz.ntmps34
    go_wp2
    go_ret
    exact ⟨⟨_, rfl, HI.out.symm⟩, rfl⟩
  | false =>
  cases g5 : (s.toList == [61]) with
  | true =>
    have HI : Hid (inL opL s = true) := by
      unfold Hid
      rw [opL_any, g5]
      simp
    go_enter Tryz.func34, Tryz.ntmps34
    go_wp2
    go_ret
    exact ⟨⟨_, rfl, HI.out.symm⟩, rfl⟩
  | false =>
  cases g6 : (s.toList == [60]) with
  | true =>
    have HI : Hid (inL opL s = true) := by
      unfold Hid
      rw [opL_any, g6]
      simp
    go_enter Tryz.func34, Tryz.ntmps34
    go_wp2
    go_ret
    exact ⟨⟨_, rfl, HI.out.symm⟩, rfl⟩
  | false =>
  cases g7 : (s.toList == [62]) with
  | true =>
    have HI : Hid (inL opL s = true) := by
      unfold Hid
      rw [opL_any, g7]
      simp
    go_enter Tryz.func34, Tryz.ntmps34
    go_wp2
    go_ret
    exact ⟨⟨_, rfl, HI.out.symm⟩, rfl⟩
  | false =>
  cases g8 : (s.toList == [60, 61]) with
  | true =>
    have HI : Hid (inL opL s = true) := by
      unfold Hid
      rw [opL_any, g8]
      simp
    go_enter Tryz.func34, Tryz.ntmps34
    go_wp2
    go_ret
    exact ⟨⟨_, rfl, HI.out.symm⟩, rfl⟩
  | false =>
  cases g9 : (s.toList == [62, 61]) with
  | true =>
    have HI : Hid (inL opL s = true) := by
      unfold Hid
      rw [opL_any, g9]
      simp
    go_enter Tryz.func34, Tryz.ntmps34
    go_wp2
    go_ret
    exact ⟨⟨_, rfl, HI.out.symm⟩, rfl⟩
  | false =>
  cases g10 : (s.toList == [110, 101, 119, 108, 105, 110, 101]) with
  | true =>
    have HI : Hid (inL opL s = true) := by
      unfold Hid
      rw [opL_any, g10]
      simp
    go_enter Tryz.func34, Tryz.ntmps34
    go_wp2
    go_ret
    exact ⟨⟨_, rfl, HI.out.symm⟩, rfl⟩
  | false =>
  cases g11 : (s.toList == [102, 108, 111, 111, 114]) with
  | true =>
    have HI : Hid (inL opL s = true) := by
      unfold Hid
      rw [opL_any, g11]
      simp
    go_enter Tryz.func34, Tryz.ntmps34
    go_wp2
    go_ret
    exact ⟨⟨_, rfl, HI.out.symm⟩, rfl⟩
  | false =>
  cases g12 : (s.toList == [99, 97, 114]) with
  | true =>
    have HI : Hid (inL opL s = true) := by
      unfold Hid
      rw [opL_any, g12]
      simp
    go_enter Tryz.func34, Tryz.ntmps34
    go_wp2
    go_ret
    exact ⟨⟨_, rfl, HI.out.symm⟩, rfl⟩
  | false =>
  cases g13 : (s.toList == [99, 100, 114]) with
  | true =>
    have HI : Hid (inL opL s = true) := by
      unfold Hid
      rw [opL_any, g13]
      simp
    go_enter Tryz.func34, Tryz.ntmps34
    go_wp2
    go_ret
    exact ⟨⟨_, rfl, HI.out.symm⟩, rfl⟩
  | false =>
  cases g14 : (s.toList == [110, 117, 108, 108, 63]) with
  | true =>
    have HI : Hid (inL opL s = true) := by
      unfold Hid
      rw [opL_any, g14]
      simp
    go_enter Tryz.func34, Tryz.ntmps34
    go_wp2
    go_ret
    exact ⟨⟨_, rfl, HI.out.symm⟩, rfl⟩
  | false =>
  cases g15 : (s.toList == [112, 97, 105, 114, 63]) with
  | true =>
    have HI : Hid (inL opL s = true) := by
      unfold Hid
      rw [opL_any, g15]
      simp
    go_enter Tryz.func34, Tryz.ntmps34
    go_wp2
    go_ret
    exact ⟨⟨_, rfl, HI.out.symm⟩, rfl⟩
  | false =>
  cases g16 : (s.toList == [110, 117, 109, 98, 101, 114, 63]) with
  | true =>
    have HI : Hid (inL opL s = true) := by
      unfold Hid
      rw [opL_any, g16]
      simp
    go_enter Tryz.func34, Tryz.ntmps34
    go_wp2
    go_ret
    exact ⟨⟨_, rfl, HI.out.symm⟩, rfl⟩
  | false =>
  cases g17 : (s.toList == [115, 121, 109, 98, 111, 108, 63]) with
  | true =>
    have HI : Hid (inL opL s = true) := by
      unfold Hid
      rw [opL_any, g17]
      simp
    go_enter Tryz.func34, Tryz.ntmps34
    go_wp2
    go_ret
    exact ⟨⟨_, rfl, HI.out.symm⟩, rfl⟩
  | false =>
  cases g18 : (s.toList == [115, 116, 114, 105, 110, 103, 63]) with
  | true =>
    have HI : Hid (inL opL s = true) := by
      unfold Hid
      rw [opL_any, g18]
      simp
    go_enter Tryz.func34, Tryz.ntmps34
    go_wp2
    go_ret
    exact ⟨⟨_, rfl, HI.out.symm⟩, rfl⟩
  | false =>
  cases g19 : (s.toList == [98, 111, 111, 108, 101, 97, 110, 63]) with
  | true =>
    have HI : Hid (inL opL s = true) := by
      unfold Hid
      rw [opL_any, g19]
      simp
    go_enter Tryz.func34, Tryz.ntmps34
    go_wp2
    go_ret
    exact ⟨⟨_, rfl, HI.out.symm⟩, rfl⟩
  | false =>
  cases g20 : (s.toList == [112, 114, 111, 99, 101, 100, 117, 114, 101, 63]) with
  | true =>
    have HI : Hid (inL opL s = true) := by
      unfold Hid
      rw [opL_any, g20]
      simp
    go_enter Tryz.func34, Tryz.ntmps34
    go_wp2
    go_ret
    exact ⟨⟨_, rfl, HI.out.symm⟩, rfl⟩
  | false =>
  cases g21 : (s.toList == [110, 111, 116]) with
  | true =>
    have HI : Hid (inL opL s = true) := by
      unfold Hid
      rw [opL_any, g21]
      simp
    go_enter Tryz.func34, Tryz.ntmps34
    go_wp2
    go_ret
    exact ⟨⟨_, rfl, HI.out.symm⟩, rfl⟩
  | false =>
  cases g22 : (s.toList == [108, 101, 110, 103, 116, 104]) with
  | true =>
    have HI : Hid (inL opL s = true) := by
      unfold Hid
      rw [opL_any, g22]
      simp
    go_enter Tryz.func34, Tryz.ntmps34
    go_wp2
    go_ret
    exact ⟨⟨_, rfl, HI.out.symm⟩, rfl⟩
  | false =>
  cases g23 : (s.toList == [114, 101, 118, 101, 114, 115, 101]) with
  | true =>
    have HI : Hid (inL opL s = true) := by
      unfold Hid
      rw [opL_any, g23]
      simp
    go_enter Tryz.func34, Tryz.ntmps34
    go_wp2
    go_ret
    exact ⟨⟨_, rfl, HI.out.symm⟩, rfl⟩
  | false =>
  cases g24 : (s.toList == [100, 105, 115, 112, 108, 97, 121]) with
  | true =>
    have HI : Hid (inL opL s = true) := by
      unfold Hid
      rw [opL_any, g24]
      simp
    go_enter Tryz.func34, Tryz.ntmps34
    go_wp2
    go_ret
    exact ⟨⟨_, rfl, HI.out.symm⟩, rfl⟩
  | false =>
  cases g25 : (s.toList == [119, 114, 105, 116, 101]) with
  | true =>
    have HI : Hid (inL opL s = true) := by
      unfold Hid
      rw [opL_any, g25]
      simp
    go_enter Tryz.func34, Tryz.ntmps34
    go_wp2
    go_ret
    exact ⟨⟨_, rfl, HI.out.symm⟩, rfl⟩
  | false =>
  cases g26 : (s.toList == [99, 97, 108, 108, 47, 99, 99]) with
  | true =>
    have HI : Hid (inL opL s = true) := by
      unfold Hid
      rw [opL_any, g26]
      simp
    go_enter Tryz.func34, Tryz.ntmps34
    go_wp2
    go_ret
    exact ⟨⟨_, rfl, HI.out.symm⟩, rfl⟩
  | false =>
  cases g27 : (s.toList == [113, 117, 111, 116, 105, 101, 110, 116]) with
  | true =>
    have HI : Hid (inL opL s = true) := by
      unfold Hid
      rw [opL_any, g27]
      simp
    go_enter Tryz.func34, Tryz.ntmps34
    go_wp2
    go_ret
    exact ⟨⟨_, rfl, HI.out.symm⟩, rfl⟩
  | false =>
  cases g28 : (s.toList == [114, 101, 109, 97, 105, 110, 100, 101, 114]) with
  | true =>
    have HI : Hid (inL opL s = true) := by
      unfold Hid
      rw [opL_any, g28]
      simp
    go_enter Tryz.func34, Tryz.ntmps34
    go_wp2
    go_ret
    exact ⟨⟨_, rfl, HI.out.symm⟩, rfl⟩
  | false =>
  cases g29 : (s.toList == [99, 111, 110, 115]) with
  | true =>
    have HI : Hid (inL opL s = true) := by
      unfold Hid
      rw [opL_any, g29]
      simp
    go_enter Tryz.func34, Tryz.ntmps34
    go_wp2
    go_ret
    exact ⟨⟨_, rfl, HI.out.symm⟩, rfl⟩
  | false =>
  cases g30 : (s.toList == [101, 113, 63]) with
  | true =>
    have HI : Hid (inL opL s = true) := by
      unfold Hid
      rw [opL_any, g30]
      simp
    go_enter Tryz.func34, Tryz.ntmps34
    go_wp2
    go_ret
    exact ⟨⟨_, rfl, HI.out.symm⟩, rfl⟩
  | false =>
  cases g31 : (s.toList == [101, 113, 117, 97, 108, 63]) with
  | true =>
    have HI : Hid (inL opL s = true) := by
      unfold Hid
      rw [opL_any, g31]
      simp
    go_enter Tryz.func34, Tryz.ntmps34
    go_wp2
    go_ret
    exact ⟨⟨_, rfl, HI.out.symm⟩, rfl⟩
  | false =>
  cases g32 : (s.toList == [97, 112, 112, 101, 110, 100]) with
  | true =>
    have HI : Hid (inL opL s = true) := by
      unfold Hid
      rw [opL_any, g32]
      simp
    go_enter Tryz.func34, Tryz.ntmps34
    go_wp2
    go_ret
    exact ⟨⟨_, rfl, HI.out.symm⟩, rfl⟩
  | false =>
  cases g33 : (s.toList == [97, 112, 112, 108, 121]) with
  | true =>
    have HI : Hid (inL opL s = true) := by
      unfold Hid
      rw [opL_any, g33]
      simp
    go_enter Tryz.func34, Tryz.ntmps34
    go_wp2
    go_ret
    exact ⟨⟨_, rfl, HI.out.symm⟩, rfl⟩
  | false =>
  have HI : Hid (inL opL s = false) := by
    unfold Hid
    rw [opL_any]
    simp only [g0, g1, g2, g3, g4, g5, g6, g7, g8, g9, g10, g11, g12, g13, g14, g15, g16, g17, g18, g19, g20, g21, g22, g23, g24, g25, g26, g27, g28, g29, g30, g31, g32, g33, Bool.or_false]
  go_enter Tryz.func34, Tryz.ntmps34
  go_wp2
  go_ret
  exact ⟨⟨_, rfl, HI.out.symm⟩, rfl⟩

theorem specIsPrimitive_any (s : ByteArray) (w : World) : Calls Tryz.prog 16 #[.string s] w fun e w' => e = .returned (.bool (inL opL s)) ∧ w' = w := by
  go_enter Tryz.func16, Tryz.ntmps16
  go_wp2_with fail
  refine (arity_any s _).mono ?_
  rintro e w' ⟨⟨n, rfl, hn⟩, rfl⟩
  have HN := p_hide hn
  clear hn
  go_wp2
  go_ret
  exact ⟨by rw [← HN.out]; rfl, rfl⟩
end Go.Proofs.YtjgpjafndaikcaaGreatDoor
