/-
  The texts CmpReal, RecArg, RealLaw, one behind the other, as one.
-/
import Derived.Test.YtoiegaggekgmjaaNumOf
import Derived.Test.YtoiegaggekgmjaaPkSpecCmpNum
import Derived.Test.YtoiegaggekgmjaaPkRealNum
import Derived.Test.YtoiegaggekgmjaaSpecReal
import Derived.Test.YtoiegaggekgmjaaBaseLate
import Derived.Test.YtoiegaggekgmjaaRecs
import Derived.Deep.Strs
import Derived.Carry
import Derived.WalkKit
import Derived.ProofKit
import Derived.OpenShut
import Derived.ShutString
import Derived.ChangeOld
import Derived.Test.YtoiegaggekgmjaaRealMem

/-
  What CompareReal of impl and of spec answer.
-/
namespace Go.Proofs.Ytoiegaggekgmjaa
open Go.RowKit
set_option linter.unusedVariables false

theorem run_loadRealC {o : Oper} {a : Act} {w : World} (x : Operand) (ho : o.op = .load 25 x) (b : Nat) (hx : a.eval x = .pointer (some ⟨b, 0, none⟩)) (g : Bool) (m e : Int) (hN : RowAt w b 25 #[.bool g, .int .i64 m, .int .i64 e]) :
    (execOp a.eval o).run Try.prog w = .ok (.value (.agg #[.bool g, .int .i64 m, .int .i64 e])) w := by
  have h := run_loadVar_row (P := Try.prog) w b 25 25 #[.bool g, .int .i64 m, .int .i64 e] (0, 0) _ hN Try.underlying25 rfl (real_info g m e)
  unfold execOp
  simp only [ho, hx, Instr.loadAt, Instr.sureAddr, Sem.run_bind, Sem.run_pure, Result.andThen_ok, h]
theorem load_realUC {ops : Array Oper} {rest : List Oper} {o : Oper} {a : Act} {w : World} {Q : Exit → Act → World → Prop} (hgd : o.guard = none) (x : Operand) (ho : o.op = .load 25 x) (b : Nat) (hx : a.eval x = .pointer (some ⟨b, 0, none⟩)) (g : Bool) (m e : Int) (hN : RowAt w b 25 #[.bool g, .int .i64 m, .int .i64 e])
    (h : wpList Try.prog ops Q rest (a.put o.dst (.agg #[.bool g, .int .i64 m, .int .i64 e])) w) : wpList Try.prog ops Q (o :: rest) a w :=
  wpList_load_row hgd 25 x ho b hx 25 #[.bool g, .int .i64 m, .int .i64 e] (0, 0) _ hN Try.underlying25 rfl (real_info g m e) h
theorem wpList_idOC {ops : Array Oper} {rest : List Oper} {a : Act} {w : World} {Q : Exit → Act → World → Prop} (h : wpList Try.prog ops Q rest a w) : wpList Try.prog ops Q rest a w := h
theorem topZ_sumC (g : Bool) (N D : Nat) (g' : Bool) (N' D' : Nat) : topZ g N D g' N' D' = sumZ g N D g' N' D' := rfl
theorem cut_app : ∀ (l m : List UInt8), l.all isDig = true → cut47 (l ++ 47 :: m) = (l, m, true)
  | [], m, _ => by simp [cut47]
  | c :: l, m, h => by
    have hc : c ≠ 47 := by
      intro e
      subst e
      simp [isDig] at h
    have := cut_app l m (by simp at h ⊢; exact h.2)
    simp only [List.cons_append, cut47, if_neg hc, this]
theorem cut_dig {l : List UInt8} (h : l.all isDig = true) : cut47 l = (l, [], false) := by
  refine cut47_none l (fun k hk => ?_)
  have := List.all_eq_true.1 h 47 (List.mem_of_getElem? hk)
  revert this; decide
theorem dig_front {l m : List UInt8} (h : canonB l = true) : ((l ++ m).head? == some 45) = false := by
  cases l with
  | nil => simp [canonB] at h
  | cons c m =>
    have hc := (canon_cons h).1
    have : c ≠ 45 := by intro e; subst e; revert hc; decide
    simp [this]
theorem good_dec {n : Nat} (h : n < 10 ^ 600) : goodB (Lib.decDigits n) = true := by
  obtain ⟨hc, hv⟩ := dec_canon n
  unfold goodB
  rw [hc, decide_eq_true ((canon_len_le hc 600 (by omega)).2 (by rw [hv]; exact h))]; rfl
/-- A number's text is a number. -/
theorem numR_ok {g : Bool} {n m : Nat} {s : ByteArray} (h : NumR 10 g n m s) (hg : g = true → n ≠ 0) (hm : m ≠ 0) (hc : Nat.gcd n m = 1) (hn : n < 10 ^ 600) (hm6 : m < 10 ^ 600) :
    okN s.data.toList = true ∧ negN s.data.toList = g ∧ topN s.data.toList = n ∧ botN s.data.toList = m := by
  obtain ⟨t, u, h1, h2, h3⟩ := h
  obtain ⟨cn, vn⟩ := dec_canon n
  obtain ⟨cm, vm⟩ := dec_canon m
  have et : t = ⟨(Lib.decDigits n).toArray⟩ := h1.inj (InRad.dec (s := ⟨(Lib.decDigits n).toArray⟩) cn vn)
  have eu : u = ⟨(Lib.decDigits m).toArray⟩ := h2.inj (InRad.dec (s := ⟨(Lib.decDigits m).toArray⟩) cm vm)
  rw [et, eu] at h3
  simp only at h3
  obtain ⟨R, hR⟩ : ∃ R : List UInt8, R = (if m = 1 then [] else 47 :: Lib.decDigits m) := ⟨_, rfl⟩
  rw [← hR, List.append_assoc] at h3
  have hneg : negN s.data.toList = g := by
    rw [h3]
    unfold negN
    cases g with
    | true => rfl
    | false =>
      show ((([] : List UInt8) ++ (Lib.decDigits n ++ R)).head? == some 45) = false
      rw [List.nil_append]
      exact dig_front cn
  have hbody : bodyN s.data.toList = Lib.decDigits n ++ R := by
    unfold bodyN
    rw [hneg]
    cases g with
    | true => rw [if_pos rfl, h3]; rfl
    | false => rw [if_neg (by decide), h3]; rfl
  have hcut : cut47 (Lib.decDigits n ++ R) = (Lib.decDigits n, if m = 1 then [] else Lib.decDigits m, decide (m ≠ 1)) := by
    rw [hR]
    by_cases h1 : m = 1
    · rw [if_pos h1, if_pos h1, List.append_nil, cut_dig (canon_all cn), decide_eq_false (by simp [h1])]
    · rw [if_neg h1, if_neg h1, cut_app _ _ (canon_all cn), decide_eq_true h1]
  have hover : overN s.data.toList = Lib.decDigits n := by unfold overN; rw [hbody, hcut]
  have hunder : underN s.data.toList = if m = 1 then [] else Lib.decDigits m := by unfold underN; rw [hbody, hcut]
  have hbr : brokenN s.data.toList = decide (m ≠ 1) := by unfold brokenN; rw [hbody, hcut]
  refine ⟨?_, hneg, by unfold topN; rw [hover, vn], ?_⟩
  · unfold okN
    rw [hover, hneg, hbr, hunder, vn, good_dec hn]
    have e1 : (true && !(g && decide (n = 0))) = true := by
      cases g with
      | true => rw [decide_eq_false (hg rfl)]; rfl
      | false => rfl
    rw [e1]
    by_cases h1 : m = 1
    · rw [decide_eq_false (by simp [h1])]; rfl
    · rw [decide_eq_true h1, if_neg h1, vm, good_dec hm6, decide_eq_true hm, decide_eq_true h1, decide_eq_true hc]; rfl
  · unfold botN
    rw [hbr, hunder]
    by_cases h1 : m = 1
    · rw [decide_eq_false (by simp [h1]), if_neg (by decide), h1]
    · rw [decide_eq_true h1, if_pos rfl, if_neg h1, vm]
theorem TellsN.num {g : Bool} {n m : Nat} {s : ByteArray} (h : TellsN g n m (.returned (.tuple #[.string s, .bool true]))) (hn : n < 10 ^ 600) (hm : m < 10 ^ 600) : NumR 10 g n m s := by
  obtain ⟨t, e, h1, _⟩ := h
  have hb : (decide (n < 10 ^ 600) && decide (m < 10 ^ 600)) = true := by rw [decide_eq_true hn, decide_eq_true hm]; rfl
  rw [hb] at e
  simp only [Ending.returned.injEq, Value.tuple.injEq, Array.mk.injEq, List.cons.injEq, Value.string.injEq, and_true] at e
  rw [e]
  exact h1 hb

theorem val_eq {n : Nat} {e : Int} (he : -150 ≤ e) : valR n e * vD e = vN n e * 2 ^ 150 := by
  unfold valR vD vN
  rw [Nat.mul_assoc, ← Nat.pow_add, Nat.mul_assoc, ← Nat.pow_add]
  congr 2
  omega
/-- The order of two signed numbers. -/
theorem sign_val {n0 n1 : Nat} {e0 e1 : Int} (g0 g1 : Bool) (h0 : FinR n0 e0) (h1 : FinR n1 e1) : sgnZ (sumZ g0 (vN n0 e0) (vD e0) (!g1) (vN n1 e1) (vD e1)) = cmpI (sg g0 (rankN n0 e0)) (sg g1 (rankN n1 e1)) := by
  have b0 : -150 ≤ e0 := by unfold FinR at h0; omega
  have b1 : -150 ≤ e1 := by unfold FinR at h1; omega
  have v0 := val_eq (n := n0) b0
  have v1 := val_eq (n := n1) b1
  have c := cmp_rank h0 h1
  have z0 : rankN n0 e0 = 0 ↔ valR n0 e0 = 0 := by
    unfold rankN valR
    have := Nat.two_pow_pos (e0 + 150).toNat
    rw [Nat.mul_eq_zero]
    unfold FinR at h0
    omega
  have z1 : rankN n1 e1 = 0 ↔ valR n1 e1 = 0 := by
    unfold rankN valR
    have := Nat.two_pow_pos (e1 + 150).toNat
    rw [Nat.mul_eq_zero]
    unfold FinR at h1
    omega
  have d0 := vD_ne e0
  have d1 := vD_ne e1
  -- the sum, in the least steps
  have key : sumZ g0 (vN n0 e0) (vD e0) (!g1) (vN n1 e1) (vD e1) * (2 ^ 150 : Int) = (sg g0 (valR n0 e0) - sg g1 (valR n1 e1)) * ((vD e0 : Int) * (vD e1 : Int)) := by
    have w0 : (valR n0 e0 : Int) * (vD e0 : Int) = (vN n0 e0 : Int) * 2 ^ 150 := by exact_mod_cast v0
    have w1 : (valR n1 e1 : Int) * (vD e1 : Int) = (vN n1 e1 : Int) * 2 ^ 150 := by exact_mod_cast v1
    unfold sumZ sg
    generalize (2 ^ 150 : Int) = t at *
    cases g0 <;> cases g1 <;> simp <;> grind
  have hp : (0 : Int) < (vD e0 : Int) * (vD e1 : Int) := Int.mul_pos (by omega) (by omega)
  have ht : (0 : Int) < 2 ^ 150 := by decide
  have hs : sgnZ (sumZ g0 (vN n0 e0) (vD e0) (!g1) (vN n1 e1) (vD e1)) = sgnZ (sg g0 (valR n0 e0) - sg g1 (valR n1 e1)) := by
    generalize sumZ g0 (vN n0 e0) (vD e0) (!g1) (vN n1 e1) (vD e1) = x at *
    generalize sg g0 (valR n0 e0) - sg g1 (valR n1 e1) = y at *
    generalize (vD e0 : Int) * (vD e1 : Int) = b at *
    generalize (2 ^ 150 : Int) = t at *
    have r1 : x < 0 ↔ y < 0 := by
      constructor
      · intro h
        rcases Int.lt_or_le y 0 with h2 | h2
        · exact h2
        · have := Int.mul_neg_of_neg_of_pos h ht
          have := Int.mul_nonneg h2 (Int.le_of_lt hp)
          omega
      · intro h
        rcases Int.lt_or_le x 0 with h2 | h2
        · exact h2
        · have := Int.mul_neg_of_neg_of_pos h hp
          have := Int.mul_nonneg h2 (Int.le_of_lt ht)
          omega
    have r2 : x = 0 ↔ y = 0 := by
      constructor
      · intro h
        rw [h, Int.zero_mul] at key
        rcases Int.mul_eq_zero.1 key.symm with h2 | h2 <;> omega
      · intro h
        rw [h, Int.zero_mul] at key
        rcases Int.mul_eq_zero.1 key with h2 | h2 <;> omega
    unfold sgnZ
    simp only [r1, r2]
  rw [hs]
  clear hs key v0 v1 d0 d1 hp ht
  generalize valR n0 e0 = a at *
  generalize valR n1 e1 = b at *
  generalize rankN n0 e0 = r at *
  generalize rankN n1 e1 = s at *
  unfold cmpN at c
  unfold sgnZ sg cmpI
  have hc : (r < s ↔ a < b) ∧ (r = s ↔ a = b) := by
    by_cases q1 : r < s <;> by_cases q2 : a < b <;> by_cases q3 : r = s <;> by_cases q4 : a = b <;> simp [q1, q2, q3, q4] at c ⊢ <;> omega
  cases g0 <;> cases g1 <;> simp only [Bool.false_eq_true, if_true, if_false] <;> (repeat' split) <;> omega
/-! the functions -/
theorem rank_sg {n : Nat} {e : Int} (g : Bool) (h : FinR n e) : rankZ g (n : Int) e = sg g (rankN n e) := by
  have hi : infB (n : Int) e = false := by
    unfold infB FinR at *
    simp
    omega
  unfold rankZ rankA sg rankN FinR at *
  rw [hi]
  cases g <;> simp <;> omega
theorem rank_infZ {m e : Int} (g : Bool) (h : infB m e = true) : rankZ g m e = if g then -1360087087465889792 else 1360087087465889792 := by
  unfold rankZ rankA
  rw [if_pos h]
theorem okN_size {s : ByteArray} (h : okN s.data.toList = true) : s.size ≤ maxLen := by
  have h1 : (overN s.data.toList).length ≤ 600 ∧ (brokenN s.data.toList = false ∨ (underN s.data.toList).length ≤ 600) := by
    unfold okN at h
    simp only [Bool.and_eq_true, Bool.or_eq_true, Bool.not_eq_true', goodB, decide_eq_true_eq] at h
    refine ⟨h.1.1.1, ?_⟩
    rcases h.2 with h2 | h2
    · exact .inl h2
    · exact .inr h2.1.1
  have key : ∀ l : List UInt8, l.length ≤ (cut47 l).1.length + (cut47 l).2.1.length + 1 ∧ ((cut47 l).2.2 = false → l.length ≤ (cut47 l).1.length) := by
    intro l
    induction l with
    | nil => simp [cut47]
    | cons c m ih =>
      by_cases hc : c = 47
      · simp [cut47, hc]
      · simp only [cut47, if_neg hc, List.length_cons]
        exact ⟨by omega, fun h => by have := ih.2 h; omega⟩
  have h2 : s.data.toList.length ≤ (bodyN s.data.toList).length + 1 := by
    unfold bodyN
    split
    · simp; omega
    · omega
  have h3 := key (bodyN s.data.toList)
  have h4 : s.data.toList.length = s.size := by simp
  unfold overN underN brokenN at h1
  unfold maxLen
  rcases h1.2 with h5 | h5
  · have := h3.2 h5; omega
  · omega
/-- What CompareReal answers. -/
def goodR (m e : Int) : Bool := finB m e || infB m e
def CmpR (g0 : Bool) (m0 e0 : Int) (g1 : Bool) (m1 e1 : Int) (v : Ending) : Prop :=
  ((goodR m0 e0 && goodR m1 e1) = true ∧ v = .returned (.tuple #[.int .i64 (cmpI (rankZ g0 m0 e0) (rankZ g1 m1 e1)), .bool true])) ∨ ((goodR m0 e0 && goodR m1 e1) = false ∧ v = .returned (.tuple #[.int .i64 0, .bool false]))
theorem CmpR.same {g0 : Bool} {m0 e0 : Int} {g1 : Bool} {m1 e1 : Int} {v v' : Ending} (h : CmpR g0 m0 e0 g1 m1 e1 v) (h' : CmpR g0 m0 e0 g1 m1 e1 v') : ∃ (c : Int) (d : Bool), v = .returned (.tuple #[.int .i64 c, .bool d]) ∧ v' = v := by
  rcases h with ⟨h1, rfl⟩ | ⟨h1, rfl⟩ <;> rcases h' with ⟨h2, rfl⟩ | ⟨h2, rfl⟩
  · exact ⟨_, _, rfl, rfl⟩
  · rw [h1] at h2; cases h2
  · rw [h1] at h2; cases h2
  · exact ⟨_, _, rfl, rfl⟩
theorem goodR_or {m e : Int} (h : goodR m e = true) : finB m e = true ∨ infB m e = true := by unfold goodR at h; simpa using h

set_option maxHeartbeats 4000000 in
set_option maxRecDepth 100000 in
theorem lbCompareT (g0 : Bool) (m0 e0 : Int) (g1 : Bool) (m1 e1 : Int) (w : World) (hg0 : goodR m0 e0 = true) (hg1 : goodR m1 e1 = true) :
    Calls Try.prog 36 #[.agg #[.bool g0, .int .i64 m0, .int .i64 e0], .agg #[.bool g1, .int .i64 m1, .int .i64 e1]] w fun e' w' => e' = .returned (.int .i64 (cmpI (rankZ g0 m0 e0) (rankZ g1 m1 e1))) ∧ Below w.heap.size w w' := by
  have A : RowAt ((w.alloc (.cells #[.bool g0, .int .i64 m0, .int .i64 e0] 25)).alloc (.cells #[.bool g1, .int .i64 m1, .int .i64 e1] 25)) w.heap.size 25 #[.bool g0, .int .i64 m0, .int .i64 e0] := RowAt.old (RowAt.new w 25 #[.bool g0, .int .i64 m0, .int .i64 e0]) _
  have B : RowAt ((w.alloc (.cells #[.bool g0, .int .i64 m0, .int .i64 e0] 25)).alloc (.cells #[.bool g1, .int .i64 m1, .int .i64 e1] 25)) (w.heap.size + 1) 25 #[.bool g1, .int .i64 m1, .int .i64 e1] := by
    have h := RowAt.new (w.alloc (.cells #[.bool g0, .int .i64 m0, .int .i64 e0] 25)) 25 #[.bool g1, .int .i64 m1, .int .i64 e1]
    rw [World.size_alloc] at h
    exact h
  have hB : Below w.heap.size w ((w.alloc (.cells #[.bool g0, .int .i64 m0, .int .i64 e0] 25)).alloc (.cells #[.bool g1, .int .i64 m1, .int .i64 e1] 25)) := ((Below.refl _ _).alloc (Nat.le_refl _) _).alloc (by simp) _
  have hws : ((w.alloc (.cells #[.bool g0, .int .i64 m0, .int .i64 e0] 25)).alloc (.cells #[.bool g1, .int .i64 m1, .int .i64 e1] 25)).heap.size = w.heap.size + 1 + 1 := by simp
  have HF0 := hide (fun w' => lbFinite_any g0 m0 e0 w')
  have HF1 := hide (fun w' => lbFinite_any g1 m1 e1 w')
  obtain ⟨f0, hf0⟩ : ∃ f, f = finB m0 e0 := ⟨_, rfl⟩
  obtain ⟨f1, hf1⟩ : ∃ f, f = finB m1 e1 := ⟨_, rfl⟩
  rw [← hf0] at HF0
  rw [← hf1] at HF1
  have HH := hide (And.intro hf0 hf1)
  have HG := hide (And.intro hg0 hg1)
  obtain ⟨c, hc⟩ : ∃ c, c = cmpI (rankZ g0 m0 e0) (rankZ g1 m1 e1) := ⟨_, rfl⟩
  rw [← hc]
  have HC := hide hc
  clear hf0 hf1 hg0 hg1 hc
  go_enter Try.func36, Try.ntmps36
  generalize hw0 : (w.alloc (.cells #[.bool g0, .int .i64 m0, .int .i64 e0] 25)).alloc (.cells #[.bool g1, .int .i64 m1, .int .i64 e1] 25) = w0 at A B hB hws
  go_wp2_with (with_reducible refine wpList_idOC ?_; refine load_realUC rfl _ rfl w.heap.size rfl g0 m0 e0 A ?_)
  refine (HF0.out w0).mono ?_
  rintro e w1 ⟨rfl, hW1⟩
  have hs1 := hW1.size
  have A1 := RowAt.below A hW1 (by omega)
  have B1 := RowAt.below B hW1 (by omega)
  have hB1 : Below w.heap.size w w1 := hB.trans (hW1.mono (by omega))
  clear hw0 A B hB hW1
  go_wp2_with (with_reducible refine wpList_idOC ?_; refine load_realUC rfl _ rfl (w.heap.size + 1) rfl g1 m1 e1 B1 ?_)
  refine (HF1.out w1).mono ?_
  rintro e w2 ⟨rfl, hW2⟩
  have hs2 := hW2.size
  have A2 := RowAt.below A1 hW2 (by omega)
  have B2 := RowAt.below B1 hW2 (by omega)
  have hB2 : Below w.heap.size w w2 := hB1.trans (hW2.mono (by omega))
  have hs2' : w.heap.size + 1 + 1 ≤ w2.heap.size := by omega
  have c00 : w2.cell? ⟨w.heap.size, 0, none⟩ = some (.bool g0) := by rw [cell_of_row _ _ _ _ _ _ A2]; rfl
  have c10 : w2.cell? ⟨w.heap.size + 1, 0, none⟩ = some (.bool g1) := by rw [cell_of_row _ _ _ _ _ _ B2]; rfl
  clear A1 B1 hB1 hW2 hs1 hs2
  cases f0 with
  | false =>
    have HI0 : Hid (rankZ g0 m0 e0 = if g0 then -1360087087465889792 else 1360087087465889792) := by
      refine rank_infZ g0 ?_
      rcases goodR_or HG.out.1 with h | h
      · rw [← HH.out.1] at h; cases h
      · exact h
    cases f1 with
    | false =>
      have HI1 : Hid (rankZ g1 m1 e1 = if g1 then -1360087087465889792 else 1360087087465889792) := by
        refine rank_infZ g1 ?_
        rcases goodR_or HG.out.2 with h | h
        · rw [← HH.out.2] at h; cases h
        · exact h
      cases g0 <;> cases g1
      all_goals
        have hv := HC.out
        rw [HI0.out, HI1.out] at hv
        simp only [cmpI, Bool.false_eq_true, if_true, if_false] at hv
        have HV := hide hv
        clear hv
        go_wp2
        go_ret
        refine ⟨?_, hB2⟩
        rw [HV.out]
        first
          | rfl
          | (rw [if_pos (by omega)]; rfl)
          | (rw [if_neg (by omega), if_pos (by omega)]; rfl)
          | (rw [if_neg (by omega), if_neg (by omega)]; rfl)
    | true =>
      have hb := rankZ_bd (g := g1) HH.out.2.symm
      cases g0
      all_goals
        have hv := HC.out
        rw [HI0.out] at hv
        simp only [cmpI, Bool.false_eq_true, if_true, if_false] at hv
        have HV := hide hv
        clear hv
        go_wp2
        go_ret
        refine ⟨?_, hB2⟩
        rw [HV.out]
        first
          | rfl
          | (rw [if_pos (by omega)]; rfl)
          | (rw [if_neg (by omega), if_pos (by omega)]; rfl)
          | (rw [if_neg (by omega), if_neg (by omega)]; rfl)
  | true =>
    cases f1 with
    | false =>
      have HI1 : Hid (rankZ g1 m1 e1 = if g1 then -1360087087465889792 else 1360087087465889792) := by
        refine rank_infZ g1 ?_
        rcases goodR_or HG.out.2 with h | h
        · rw [← HH.out.2] at h; cases h
        · exact h
      have hb := rankZ_bd (g := g0) HH.out.1.symm
      cases g1
      all_goals
        have hv := HC.out
        rw [HI1.out] at hv
        simp only [cmpI, Bool.false_eq_true, if_true, if_false] at hv
        have HV := hide hv
        clear hv
        go_wp2
        go_ret
        refine ⟨?_, hB2⟩
        rw [HV.out]
        first
          | rfl
          | (rw [if_pos (by omega)]; rfl)
          | (rw [if_neg (by omega), if_pos (by omega)]; rfl)
          | (rw [if_neg (by omega), if_neg (by omega)]; rfl)
    | true =>
      obtain ⟨n0, hn0, hF0⟩ := (finB_iff m0 e0).1 HH.out.1.symm
      obtain ⟨n1, hn1, hF1⟩ := (finB_iff m1 e1).1 HH.out.2.symm
      have HN0 := hide (And.intro hn0 hF0)
      have HN1 := hide (And.intro hn1 hF1)
      clear hn0 hn1 hF0 hF1 c00 c10
      go_wp2_with fail
      refine held_begin (fun w' => RowAt w' (w.heap.size) 25 #[.bool g0, .int .i64 m0, .int .i64 e0] ∧ RowAt w' (w.heap.size + 1) 25 #[.bool g1, .int .i64 m1, .int .i64 e1]) (by kernel_rfl) ?_
      have hS : RowAt w2.drew (w.heap.size) 25 #[.bool g0, .int .i64 m0, .int .i64 e0] ∧ RowAt w2.drew (w.heap.size + 1) 25 #[.bool g1, .int .i64 m1, .int .i64 e1] := ⟨A2, B2⟩
      refine held_valS 0 (some 36) rfl rfl (by kernel_rfl) (by kernel_rfl) (by kernel_rfl) noPanic_put rfl (.agg #[.bool g0, .int .i64 m0, .int .i64 e0]) (fun _ h => run_loadRealC _ rfl (w.heap.size) rfl g0 m0 e0 h.1) hS ?_
      simp only [Act.put, List.setIfInBounds_toArray, List.set_cons_zero, List.set_cons_succ]
      refine held_valS 2 (some 38) rfl rfl (by kernel_rfl) (by kernel_rfl) (by kernel_rfl) noPanic_put rfl (.agg #[.bool g1, .int .i64 m1, .int .i64 e1]) (fun _ h => run_loadRealC _ rfl (w.heap.size + 1) rfl g1 m1 e1 h.2) hS ?_
      simp only [Act.put, List.setIfInBounds_toArray, List.set_cons_zero, List.set_cons_succ]
      refine held_call 1 (some 37) (by kernel_rfl) rfl rfl rfl 66 #[.agg #[.bool g0, .int .i64 m0, .int .i64 e0]] (by go_simp) _ (lbNumT g0 m0 e0 w2.drew HN0.out.1 HN0.out.2) ?_
      rintro ea w3 ⟨⟨s3, rfl, hT3⟩, hW3⟩
      have hs3 : w2.heap.size ≤ w3.heap.size := hW3.size
      have hS3 : RowAt w3 (w.heap.size) 25 #[.bool g0, .int .i64 m0, .int .i64 e0] ∧ RowAt w3 (w.heap.size + 1) 25 #[.bool g1, .int .i64 m1, .int .i64 e1] := ⟨RowAt.below hS.1 hW3 (by show _ < w2.heap.size; omega), RowAt.below hS.2 hW3 (by show _ < w2.heap.size; omega)⟩
      refine ⟨_, rfl, hS3, ?_⟩
      simp only [Act.put, List.setIfInBounds_toArray, List.set_cons_zero, List.set_cons_succ]
      refine held_call 3 (some 39) (by kernel_rfl) rfl rfl rfl 66 #[.agg #[.bool g1, .int .i64 m1, .int .i64 e1]] (by go_simp) _ (lbNumT g1 m1 e1 w3 HN1.out.1 HN1.out.2) ?_
      rintro eb w4 ⟨⟨s4, rfl, hT4⟩, hW4⟩
      have hs4 : w3.heap.size ≤ w4.heap.size := hW4.size
      have hS4 : RowAt w4 (w.heap.size) 25 #[.bool g0, .int .i64 m0, .int .i64 e0] ∧ RowAt w4 (w.heap.size + 1) 25 #[.bool g1, .int .i64 m1, .int .i64 e1] := ⟨RowAt.below hS3.1 hW4 (by omega), RowAt.below hS3.2 hW4 (by omega)⟩
      have l0 := low_ten HN0.out.2
      have l1 := low_ten HN1.out.2
      have q0 : vD e0 / Nat.gcd (vN n0 e0) (vD e0) ≠ 0 := Nat.ne_of_gt (low_pos (vD_ne e0))
      have q1 : vD e1 / Nat.gcd (vN n1 e1) (vD e1) ≠ 0 := Nat.ne_of_gt (low_pos (vD_ne e1))
      have s0 : (g0 && decide (n0 ≠ 0)) = true → vN n0 e0 / Nat.gcd (vN n0 e0) (vD e0) ≠ 0 := fun h => by simp at h; exact low_ne (fun h' => h.2 (vN_zero.1 h'))
      have s1 : (g1 && decide (n1 ≠ 0)) = true → vN n1 e1 / Nat.gcd (vN n1 e1) (vD e1) ≠ 0 := fun h => by simp at h; exact low_ne (fun h' => h.2 (vN_zero.1 h'))
      obtain ⟨ok0, ne0, tp0, bt0⟩ := numR_ok (hT3.num l0.1 l0.2) s0 q0 (low_gcd (vD_ne e0)) l0.1 l0.2
      obtain ⟨ok1, ne1, tp1, bt1⟩ := numR_ok (hT4.num l1.1 l1.2) s1 q1 (low_gcd (vD_ne e1)) l1.1 l1.2
      have x0 := low_cross (x := vN n0 e0) (y := vD e0)
      have x1 := low_cross (x := vN n1 e1) (y := vD e1)
      have hcmp : sgnZ (addZ true s3 s4) = c := by
        rw [HC.out, HN0.out.1, HN1.out.1, rank_sg g0 HN0.out.2, rank_sg g1 HN1.out.2, ← sign_val g0 g1 HN0.out.2 HN1.out.2]
        have hss := sum_sign g0 (!g1) x0 x1 (vD_ne e0) (vD_ne e1) q0 q1
        have e1' : addZ true s3 s4 = sumZ g0 (vN n0 e0 / Nat.gcd (vN n0 e0) (vD e0)) (vD e0 / Nat.gcd (vN n0 e0) (vD e0)) (!g1) (vN n1 e1 / Nat.gcd (vN n1 e1) (vD e1)) (vD e1 / Nat.gcd (vN n1 e1) (vD e1)) := by
          unfold addZ
          rw [ne0, tp0, bt0, ne1, tp1, bt1, topZ_sumC]
          unfold sumZ
          rw [sg_drop g0 (fun h => by rw [vN_zero.2 h, Nat.zero_div])]
          congr 1
          congr 1
          by_cases hn : n1 = 0
          · rw [vN_zero.2 hn, Nat.zero_div]; unfold sg; simp
          · rw [decide_eq_true hn]; cases g1 <;> rfl
        rw [e1']
        unfold sgnZ
        simp only [hss.1, hss.2]
      have z3 : s3.size ≤ maxLen := okN_size ok0
      have z4 : s4.size ≤ maxLen := okN_size ok1
      refine ⟨_, rfl, hS4, ?_⟩
      simp only [Act.put, List.setIfInBounds_toArray, List.set_cons_zero, List.set_cons_succ]
      refine held_call 4 (some 40) (by kernel_rfl) rfl rfl rfl 65 #[.string s3, .string s4] (by go_simp) _ (l2Compare_any s3 s4 w4 z3 z4 ok0 ok1) ?_
      rintro ec w5 ⟨rfl, hW5⟩
      have hs5 : w4.heap.size ≤ w5.heap.size := hW5.size
      have hS5 : RowAt w5 (w.heap.size) 25 #[.bool g0, .int .i64 m0, .int .i64 e0] ∧ RowAt w5 (w.heap.size + 1) 25 #[.bool g1, .int .i64 m1, .int .i64 e1] := ⟨RowAt.below hS4.1 hW5 (by omega), RowAt.below hS4.2 hW5 (by omega)⟩
      rw [hcmp]
      have hB5 : Below w.heap.size w w5 := ((hB2.drew.trans (hW3.mono (by show _ ≤ w2.heap.size; omega))).trans (hW4.mono (by omega))).trans (hW5.mono (by omega))
      refine ⟨_, rfl, hS5, ?_⟩
      simp only [Act.put, List.setIfInBounds_toArray, List.set_cons_zero, List.set_cons_succ]
      refine held_assign 5 (some 4) (by kernel_rfl) rfl rfl _ rfl rfl (.int .i64 c) rfl hS5 ?_
      simp only [Act.put, List.setIfInBounds_toArray, List.set_cons_zero, List.set_cons_succ]
      refine wpAnyH_done (by kernel_rfl) ?_ _
      refine NoPanic.normal ?_
      go_wp2
      go_ret
      exact ⟨rfl, hB5⟩

set_option maxHeartbeats 4000000 in
set_option maxRecDepth 100000 in
theorem specCmpReal_any (g0 : Bool) (m0 e0 : Int) (g1 : Bool) (m1 e1 : Int) (w : World) :
    Calls Try.prog 17 #[.agg #[.bool g0, .int .i64 m0, .int .i64 e0], .agg #[.bool g1, .int .i64 m1, .int .i64 e1]] w fun e' w' => CmpR g0 m0 e0 g1 m1 e1 e' ∧ Below w.heap.size w w' := by
  have A : RowAt ((w.alloc (.cells #[.bool g0, .int .i64 m0, .int .i64 e0] 25)).alloc (.cells #[.bool g1, .int .i64 m1, .int .i64 e1] 25)) w.heap.size 25 #[.bool g0, .int .i64 m0, .int .i64 e0] := RowAt.old (RowAt.new w 25 #[.bool g0, .int .i64 m0, .int .i64 e0]) _
  have B : RowAt ((w.alloc (.cells #[.bool g0, .int .i64 m0, .int .i64 e0] 25)).alloc (.cells #[.bool g1, .int .i64 m1, .int .i64 e1] 25)) (w.heap.size + 1) 25 #[.bool g1, .int .i64 m1, .int .i64 e1] := by
    have h := RowAt.new (w.alloc (.cells #[.bool g0, .int .i64 m0, .int .i64 e0] 25)) 25 #[.bool g1, .int .i64 m1, .int .i64 e1]
    rw [World.size_alloc] at h
    exact h
  have hB : Below w.heap.size w ((w.alloc (.cells #[.bool g0, .int .i64 m0, .int .i64 e0] 25)).alloc (.cells #[.bool g1, .int .i64 m1, .int .i64 e1] 25)) := ((Below.refl _ _).alloc (Nat.le_refl _) _).alloc (by simp) _
  have hws : ((w.alloc (.cells #[.bool g0, .int .i64 m0, .int .i64 e0] 25)).alloc (.cells #[.bool g1, .int .i64 m1, .int .i64 e1] 25)).heap.size = w.heap.size + 1 + 1 := by simp
  have HF0 := hide (fun w' => specGoodReal_any g0 m0 e0 w')
  have HF1 := hide (fun w' => specGoodReal_any g1 m1 e1 w')
  obtain ⟨f0, hf0⟩ : ∃ f, f = goodR m0 e0 := ⟨_, rfl⟩
  obtain ⟨f1, hf1⟩ : ∃ f, f = goodR m1 e1 := ⟨_, rfl⟩
  have hf0' := hf0
  have hf1' := hf1
  unfold goodR at hf0' hf1'
  rw [← hf0'] at HF0
  rw [← hf1'] at HF1
  have HH := hide (And.intro hf0 hf1)
  have HNO : Hid ((f0 && f1) = false → CmpR g0 m0 e0 g1 m1 e1 (.returned (.tuple #[.int .i64 0, .bool false]))) := fun h => .inr ⟨by rw [← hf0, ← hf1]; exact h, rfl⟩
  clear hf0 hf1 hf0' hf1'
  go_enter Try.func17, Try.ntmps17
  generalize hw0 : (w.alloc (.cells #[.bool g0, .int .i64 m0, .int .i64 e0] 25)).alloc (.cells #[.bool g1, .int .i64 m1, .int .i64 e1] 25) = w0 at A B hB hws
  go_wp2_with (with_reducible refine wpList_idOC ?_; refine load_realUC rfl _ rfl w.heap.size rfl g0 m0 e0 A ?_)
  refine (HF0.out w0).mono ?_
  rintro e w1 ⟨rfl, hW1⟩
  have hs1 := hW1.size
  have A1 := RowAt.below A hW1 (by omega)
  have B1 := RowAt.below B hW1 (by omega)
  have hB1 : Below w.heap.size w w1 := hB.trans (hW1.mono (by omega))
  clear hw0 A B hB hW1
  cases f0 with
  | false =>
    have HA := hide (HNO.out (by simp))
    go_wp2
    go_ret2
    exact ⟨HA.out, hB1⟩
  | true =>
    have c10 : w1.cell? ⟨w.heap.size + 1, 0, none⟩ = some (.bool g1) := by rw [cell_of_row _ _ _ _ _ _ B1]; rfl
    have c11 : w1.cell? ⟨w.heap.size + 1, 1, none⟩ = some (.int .i64 m1) := by rw [cell_of_row _ _ _ _ _ _ B1]; rfl
    have c12 : w1.cell? ⟨w.heap.size + 1, 2, none⟩ = some (.int .i64 e1) := by rw [cell_of_row _ _ _ _ _ _ B1]; rfl
    go_wp2_with fail
    refine (HF1.out w1).mono ?_
    rintro e w2 ⟨rfl, hW2⟩
    have hs2 := hW2.size
    have A2 := RowAt.below A1 hW2 (by omega)
    have B2 := RowAt.below B1 hW2 (by omega)
    have hB2 : Below w.heap.size w w2 := hB1.trans (hW2.mono (by omega))
    have hs2' : w.heap.size + 1 + 1 ≤ w2.heap.size := by omega
    clear A1 B1 hB1 hW2 c10 c11 c12 hs1 hs2
    cases f1 with
    | false =>
      have HA := hide (HNO.out (by simp))
      go_wp2
      go_ret2
      exact ⟨HA.out, hB2⟩
    | true =>
      have HA : Hid (CmpR g0 m0 e0 g1 m1 e1 (.returned (.tuple #[.int .i64 (cmpI (rankZ g0 m0 e0) (rankZ g1 m1 e1)), .bool true]))) := .inl ⟨by rw [← HH.out.1, ← HH.out.2]; rfl, rfl⟩
      go_wp2_with (with_reducible refine wpList_idOC ?_; first | (refine load_realUC rfl (.tmp 2) rfl w.heap.size rfl g0 m0 e0 A2 ?_) | (refine load_realUC rfl (.tmp 3) rfl (w.heap.size + 1) rfl g1 m1 e1 B2 ?_))
      refine (lbCompareT g0 m0 e0 g1 m1 e1 w2 HH.out.1.symm HH.out.2.symm).mono ?_
      rintro eb w4 ⟨rfl, hW4⟩
      have hB4 : Below w.heap.size w w4 := hB2.trans (hW4.mono (by omega))
      clear A2 B2 hB2 hW4
      go_wp2
      go_ret2
      exact ⟨HA.out, hB4⟩

set_option maxHeartbeats 4000000 in
set_option maxRecDepth 100000 in
theorem implCmpReal_any (g0 : Bool) (m0 e0 : Int) (g1 : Bool) (m1 e1 : Int) (w : World) :
    Calls Try.prog 18 #[.agg #[.bool g0, .int .i64 m0, .int .i64 e0], .agg #[.bool g1, .int .i64 m1, .int .i64 e1]] w fun e' w' => CmpR g0 m0 e0 g1 m1 e1 e' ∧ Below w.heap.size w w' := by
  have A : RowAt ((w.alloc (.cells #[.bool g0, .int .i64 m0, .int .i64 e0] 25)).alloc (.cells #[.bool g1, .int .i64 m1, .int .i64 e1] 25)) w.heap.size 25 #[.bool g0, .int .i64 m0, .int .i64 e0] := RowAt.old (RowAt.new w 25 #[.bool g0, .int .i64 m0, .int .i64 e0]) _
  have B : RowAt ((w.alloc (.cells #[.bool g0, .int .i64 m0, .int .i64 e0] 25)).alloc (.cells #[.bool g1, .int .i64 m1, .int .i64 e1] 25)) (w.heap.size + 1) 25 #[.bool g1, .int .i64 m1, .int .i64 e1] := by
    have h := RowAt.new (w.alloc (.cells #[.bool g0, .int .i64 m0, .int .i64 e0] 25)) 25 #[.bool g1, .int .i64 m1, .int .i64 e1]
    rw [World.size_alloc] at h
    exact h
  have hB : Below w.heap.size w ((w.alloc (.cells #[.bool g0, .int .i64 m0, .int .i64 e0] 25)).alloc (.cells #[.bool g1, .int .i64 m1, .int .i64 e1] 25)) := ((Below.refl _ _).alloc (Nat.le_refl _) _).alloc (by simp) _
  have hws : ((w.alloc (.cells #[.bool g0, .int .i64 m0, .int .i64 e0] 25)).alloc (.cells #[.bool g1, .int .i64 m1, .int .i64 e1] 25)).heap.size = w.heap.size + 1 + 1 := by simp
  have HF0 := hide (fun w' => implGoodReal_any g0 m0 e0 w')
  have HF1 := hide (fun w' => implGoodReal_any g1 m1 e1 w')
  obtain ⟨f0, hf0⟩ : ∃ f, f = goodR m0 e0 := ⟨_, rfl⟩
  obtain ⟨f1, hf1⟩ : ∃ f, f = goodR m1 e1 := ⟨_, rfl⟩
  have hf0' := hf0
  have hf1' := hf1
  unfold goodR at hf0' hf1'
  rw [← hf0'] at HF0
  rw [← hf1'] at HF1
  have HH := hide (And.intro hf0 hf1)
  have HNO : Hid ((f0 && f1) = false → CmpR g0 m0 e0 g1 m1 e1 (.returned (.tuple #[.int .i64 0, .bool false]))) := fun h => .inr ⟨by rw [← hf0, ← hf1]; exact h, rfl⟩
  clear hf0 hf1 hf0' hf1'
  go_enter Try.func18, Try.ntmps18
  generalize hw0 : (w.alloc (.cells #[.bool g0, .int .i64 m0, .int .i64 e0] 25)).alloc (.cells #[.bool g1, .int .i64 m1, .int .i64 e1] 25) = w0 at A B hB hws
  go_wp2_with (with_reducible refine wpList_idOC ?_; refine load_realUC rfl _ rfl w.heap.size rfl g0 m0 e0 A ?_)
  refine (HF0.out w0).mono ?_
  rintro e w1 ⟨rfl, hW1⟩
  have hs1 := hW1.size
  have A1 := RowAt.below A hW1 (by omega)
  have B1 := RowAt.below B hW1 (by omega)
  have hB1 : Below w.heap.size w w1 := hB.trans (hW1.mono (by omega))
  clear hw0 A B hB hW1
  cases f0 with
  | false =>
    have HA := hide (HNO.out (by simp))
    go_wp2
    go_ret2
    exact ⟨HA.out, hB1⟩
  | true =>
    have c10 : w1.cell? ⟨w.heap.size + 1, 0, none⟩ = some (.bool g1) := by rw [cell_of_row _ _ _ _ _ _ B1]; rfl
    have c11 : w1.cell? ⟨w.heap.size + 1, 1, none⟩ = some (.int .i64 m1) := by rw [cell_of_row _ _ _ _ _ _ B1]; rfl
    have c12 : w1.cell? ⟨w.heap.size + 1, 2, none⟩ = some (.int .i64 e1) := by rw [cell_of_row _ _ _ _ _ _ B1]; rfl
    go_wp2_with fail
    refine (HF1.out w1).mono ?_
    rintro e w2 ⟨rfl, hW2⟩
    have hs2 := hW2.size
    have A2 := RowAt.below A1 hW2 (by omega)
    have B2 := RowAt.below B1 hW2 (by omega)
    have hB2 : Below w.heap.size w w2 := hB1.trans (hW2.mono (by omega))
    have hs2' : w.heap.size + 1 + 1 ≤ w2.heap.size := by omega
    clear A1 B1 hB1 hW2 c10 c11 c12 hs1 hs2
    cases f1 with
    | false =>
      have HA := hide (HNO.out (by simp))
      go_wp2
      go_ret2
      exact ⟨HA.out, hB2⟩
    | true =>
      have HA : Hid (CmpR g0 m0 e0 g1 m1 e1 (.returned (.tuple #[.int .i64 (cmpI (rankZ g0 m0 e0) (rankZ g1 m1 e1)), .bool true]))) := .inl ⟨by rw [← HH.out.1, ← HH.out.2]; rfl, rfl⟩
      go_wp2_with fail
      refine held_begin (fun w' => RowAt w' (w.heap.size) 25 #[.bool g0, .int .i64 m0, .int .i64 e0] ∧ RowAt w' (w.heap.size + 1) 25 #[.bool g1, .int .i64 m1, .int .i64 e1]) (by kernel_rfl) ?_
      have hS : RowAt w2.drew (w.heap.size) 25 #[.bool g0, .int .i64 m0, .int .i64 e0] ∧ RowAt w2.drew (w.heap.size + 1) 25 #[.bool g1, .int .i64 m1, .int .i64 e1] := ⟨A2, B2⟩
      refine held_valS 0 (some 14) rfl rfl (by kernel_rfl) (by kernel_rfl) (by kernel_rfl) noPanic_put rfl (.agg #[.bool g0, .int .i64 m0, .int .i64 e0]) (fun _ h => run_loadRealC _ rfl (w.heap.size) rfl g0 m0 e0 h.1) hS ?_
      simp only [Act.put, List.setIfInBounds_toArray, List.set_cons_zero, List.set_cons_succ]
      refine held_valS 2 (some 16) rfl rfl (by kernel_rfl) (by kernel_rfl) (by kernel_rfl) noPanic_put rfl (.agg #[.bool g1, .int .i64 m1, .int .i64 e1]) (fun _ h => run_loadRealC _ rfl (w.heap.size + 1) rfl g1 m1 e1 h.2) hS ?_
      simp only [Act.put, List.setIfInBounds_toArray, List.set_cons_zero, List.set_cons_succ]
      refine held_call 1 (some 15) (by kernel_rfl) rfl rfl rfl 38 #[.agg #[.bool g0, .int .i64 m0, .int .i64 e0]] (by go_simp) _ (rank_any g0 m0 e0 w2.drew (goodR_or HH.out.1.symm)) ?_
      rintro ea w3 ⟨rfl, hW3⟩
      have hs3 : w2.heap.size ≤ w3.heap.size := hW3.size
      have hS3 : RowAt w3 (w.heap.size) 25 #[.bool g0, .int .i64 m0, .int .i64 e0] ∧ RowAt w3 (w.heap.size + 1) 25 #[.bool g1, .int .i64 m1, .int .i64 e1] := ⟨RowAt.below hS.1 hW3 (by show _ < w2.heap.size; omega), RowAt.below hS.2 hW3 (by show _ < w2.heap.size; omega)⟩
      refine ⟨_, rfl, hS3, ?_⟩
      simp only [Act.put, List.setIfInBounds_toArray, List.set_cons_zero, List.set_cons_succ]
      refine held_call 3 (some 17) (by kernel_rfl) rfl rfl rfl 38 #[.agg #[.bool g1, .int .i64 m1, .int .i64 e1]] (by go_simp) _ (rank_any g1 m1 e1 w3 (goodR_or HH.out.2.symm)) ?_
      rintro eb w4 ⟨rfl, hW4⟩
      have hs4 : w3.heap.size ≤ w4.heap.size := hW4.size
      have hS4 : RowAt w4 (w.heap.size) 25 #[.bool g0, .int .i64 m0, .int .i64 e0] ∧ RowAt w4 (w.heap.size + 1) 25 #[.bool g1, .int .i64 m1, .int .i64 e1] := ⟨RowAt.below hS3.1 hW4 (by omega), RowAt.below hS3.2 hW4 (by omega)⟩
      refine ⟨_, rfl, hS4, ?_⟩
      simp only [Act.put, List.setIfInBounds_toArray, List.set_cons_zero, List.set_cons_succ]
      refine held_call 4 (some 18) (by kernel_rfl) rfl rfl rfl 37 #[.int .i64 (rankZ g0 m0 e0), .int .i64 (rankZ g1 m1 e1)] (by go_simp) _ (cmpCompare_any (rankZ g0 m0 e0) (rankZ g1 m1 e1) w4) ?_
      rintro ec w5 ⟨rfl, hw5⟩
      subst hw5
      have hB5 : Below w.heap.size w w5 := (hB2.drew.trans (hW3.mono (by show _ ≤ w2.heap.size; omega))).trans (hW4.mono (by omega))
      refine ⟨_, rfl, hS4, ?_⟩
      simp only [Act.put, List.setIfInBounds_toArray, List.set_cons_zero, List.set_cons_succ]
      refine held_assign 5 (some 4) (by kernel_rfl) rfl rfl _ rfl rfl (.int .i64 (cmpI (rankZ g0 m0 e0) (rankZ g1 m1 e1))) rfl hS4 ?_
      simp only [Act.put, List.setIfInBounds_toArray, List.set_cons_zero, List.set_cons_succ]
      refine held_assign 6 (some 5) (by kernel_rfl) rfl rfl _ rfl rfl (.bool true) rfl hS4 ?_
      simp only [Act.put, List.setIfInBounds_toArray, List.set_cons_zero, List.set_cons_succ]
      refine wpAnyH_done (by kernel_rfl) ?_ _
      refine NoPanic.normal ?_
      go_wp2
      go_ret2
      exact ⟨HA.out, hB5⟩
end Go.Proofs.Ytoiegaggekgmjaa

/-
  Rows of records that came in as arguments: what their reading says of the cells.
-/
namespace Go.Proofs.Ytoiegaggekgmjaa
open Go.ChangeShapes Go.WideShapes Go.ChangeAt Go.RowKit
set_option linter.unusedVariables false

theorem laidOutR : laidOutB Try.prog = true := by kernel_rfl

theorem cell_block {w : World} {a : Addr} {v : Value} (h : w.cell? a = some v) : a.block < w.heap.size := by
  rcases Nat.lt_or_ge a.block w.heap.size with h1 | h1
  · exact h1
  · have h2 : w.heap[a.block]? = none := Array.getElem?_eq_none h1
    simp [World.cell?, h2] at h

/-- A slice of records, out of what each record's reading says. -/
theorem open_recs {H : Type} {enc : TypeId × Value → H} {W : World} {X : Type} [Inhabited X] (f : X → List Value) (c : Nat) (hc0 : 0 < c) (hc : ∀ x, (f x).length = c) (Q : X → Prop) {t e : TypeId} (ht : Try.prog.underlying t = some (.slice e)) (hce : Try.prog.cellsOf e = c)
    (each : ∀ (n : Nat) (cs : List Value) (x : DataW H × List MemPlace), cs.length = c → DataW.trod enc Try.prog W 0 (fun _ => true) true n e cs = some x → ∃ d : X, cs = f d ∧ Q d)
    {fuel : Nat} {cs : List Value} {x : DataW H × List MemPlace} (h : DataW.trod enc Try.prog W 0 (fun _ => true) true fuel t cs = some x) :
    ∃ (v : Value) (l : List X), cs = [v] ∧ SlR W v f c l ∧ (∀ i, i < l.length → Q (l.getD i default)) ∧ l.length ≤ maxLen := by
  rcases Deep.open_slice ht h with ⟨h1, _⟩ | ⟨a, len', cap', m, n, D, Pl, h1, hb, hl, hm, hmm, hx, hel⟩
  · exact ⟨.slice none 0 0, [], h1, .inl ⟨rfl, rfl⟩, fun i hi => by simp at hi, by unfold maxLen; simp⟩
  · have hlm : len' ≤ m := by rw [hmm]; simp; exact hl
    have each' : ∀ i, i < len' → ∃ d : X, W.cells? 0 (a.add (i * c)) c = some (f d) ∧ Q d := fun i hi => by
      obtain ⟨cs', g1, g2⟩ := hel i (by omega)
      rw [hce] at g1
      obtain ⟨_, hlen, _⟩ := World.cells?_some g1
      obtain ⟨d, rfl, ht⟩ := each _ _ _ hlen g2
      exact ⟨d, g1, ht⟩
    obtain ⟨g, hfl⟩ := Deep.choose_lt each'
    have hlen : ((List.range len').map g).length = len' := by simp
    have hget : ∀ i, i < len' → ((List.range len').map g).getD i default = g i := fun i hi => by simp [List.getD, hi]
    refine ⟨_, (List.range len').map g, h1, .inr ⟨a, cap', by rw [hlen], fun i j v hi hv => ?_, fun h0 => ?_⟩, fun i hi => ?_, by rw [hlen]; omega⟩
    · rw [hlen] at hi
      rw [hget i hi] at hv
      obtain ⟨_, _, hcc⟩ := World.cells?_some (hfl i hi).1
      have hj : j < c := by
        have := (List.getElem?_eq_some_iff.1 hv).1
        rw [hc] at this
        exact this
      rw [hcc j hj]
      exact hv
    · rw [hlen] at h0
      obtain ⟨_, _, hcc⟩ := World.cells?_some (hfl 0 h0).1
      have h2 := hcc 0 hc0
      have h3 : (f (g 0))[0]? = some ((f (g 0))[0]'(by rw [hc]; exact hc0)) := List.getElem?_eq_getElem _
      rw [h3] at h2
      have := cell_block h2
      simpa [Addr.add] using this
    · rw [hlen] at hi
      rw [hget i hi]
      exact (hfl i hi).2
theorem cells_strR : Try.prog.cellsOf 9 = 1 := by kernel_rfl
theorem cells_intR : Try.prog.cellsOf 3 = 1 := by kernel_rfl
theorem cells_boolR : Try.prog.cellsOf 4 = 1 := by kernel_rfl
end Go.Proofs.Ytoiegaggekgmjaa

/-
  Reals in the laws: toReal, eqReal, and an argument that is a real.
-/
namespace Go.Proofs.Ytoiegaggekgmjaa
open Go.ChangeShapes Go.WideShapes Go.ChangeAt Go.RowKit
set_option linter.unusedVariables false

theorem row_third {w : World} (o o' : Obj) (T : TypeId) (cs : Array Value) : RowAt ((w.alloc o).alloc o') (w.heap.size + 1) T cs → RowAt (((w.alloc o).alloc o').alloc (.cells cs T)) (w.heap.size + 1) T cs := fun h => h.old _

set_option maxHeartbeats 1000000 in
theorem toReal_any (g : Bool) (m e : Int) (w : World) :
    Calls Try.prog 12 #[.agg #[.bool g, .int .i64 m, .int .i64 e]] w fun e' w' => e' = .returned (.agg #[.bool g, .int .i64 m, .int .i64 e]) ∧ Below w.heap.size w w' := by
  have hz := zero_real.1
  go_enter Try.func12, Try.ntmps12
  go_wp2
  refine bodyPost_ret (res_real Try.results12 _ _ (w.heap.size + 1) _ _ _ rfl ?_) rfl ⟨rfl, (((Below.refl _ _).alloc (Nat.le_refl _) _).alloc (by simp) _).alloc (by simp; omega) _⟩
  have := RowAt.new (w.alloc (.cells #[.bool g, .int .i64 m, .int .i64 e] 23)) 25 #[.bool g, .int .i64 m, .int .i64 e]
  rw [World.size_alloc] at this
  exact this.old _

set_option maxHeartbeats 1000000 in
theorem eqReal_any (g : Bool) (m e : Int) (w : World) :
    Calls Try.prog 16 #[.agg #[.bool g, .int .i64 m, .int .i64 e], .agg #[.bool g, .int .i64 m, .int .i64 e]] w fun e' w' => e' = .returned (.bool true) ∧ Below w.heap.size w w' := by
  have hg : (g != g) = false := by cases g <;> rfl
  go_enter Try.func16, Try.ntmps16
  go_wp2
  go_ret
  exact ⟨rfl, ((Below.refl _ _).alloc (Nat.le_refl _) _).alloc (by simp) _⟩

theorem cells_intL : Try.prog.cellsOf 3 = 1 := by kernel_rfl
theorem cells_boolL : Try.prog.cellsOf 4 = 1 := by kernel_rfl
set_option maxRecDepth 100000 in
/-- A real as an argument. -/
theorem open_real {H : Type} {enc : TypeId × Value → H} {W : World} {base : Nat} {v : Value} {d : DataW H} {ps : List MemPlace} (hval : Value.okWide Try.prog W .any base 23 v) (h : DataW.Trod enc Try.prog W 0 (fun _ => true) true 23 v d ps) :
    ∃ (g : Bool) (m e : Int), v = .agg #[.bool g, .int .i64 m, .int .i64 e] := by
  obtain ⟨cs, rfl, hcs⟩ := okWide_struct Try.underlying23 hval
  have hc3 : Try.prog.cellsOf 23 = 3 := by kernel_rfl
  rw [hc3] at hcs
  obtain ⟨a, b, c, rfl⟩ : ∃ a b c, cs = #[a, b, c] := by
    obtain ⟨l⟩ := cs
    match l, hcs with
    | [a, b, c], _ => exact ⟨a, b, c, rfl⟩
  obtain ⟨fuel, hf⟩ := h
  obtain ⟨y0, y1, y2, m, _, _, h0, h1, h2⟩ := Deep.trod_struct3 Try.underlying23 hf
  have g0 : DataW.trod enc Try.prog W 0 (fun _ => true) true m 4 (([a, b, c].drop 0).take (Try.prog.cellsOf 4)) = some y0 := h0
  have g1 : DataW.trod enc Try.prog W 0 (fun _ => true) true m 3 (([a, b, c].drop 1).take (Try.prog.cellsOf 3)) = some y1 := h1
  have g2 : DataW.trod enc Try.prog W 0 (fun _ => true) true m 3 (([a, b, c].drop 2).take (Try.prog.cellsOf 3)) = some y2 := h2
  rw [cells_boolL] at g0
  rw [cells_intL] at g1 g2
  obtain ⟨k0, e0, _⟩ := DataW.trod_bool Try.underlying4 g0
  obtain ⟨k1, e1, _, _⟩ := DataW.trod_int Try.underlying3 g1
  obtain ⟨k2, e2, _, _⟩ := DataW.trod_int Try.underlying3 g2
  simp at e0 e1 e2
  exact ⟨k0, k1, k2, by rw [e0, e1, e2]⟩
theorem size_lreal : (Try.prog.info? 23).map (·.size) = some 3 := by kernel_rfl
theorem run_loadLR {o : Oper} {a : Act} {w : World} (x : Operand) (ho : o.op = .load 23 x) (b : Nat) (hx : a.eval x = .pointer (some ⟨b, 0, none⟩)) (g : Bool) (m e : Int) (hN : RowAt w b 23 #[.bool g, .int .i64 m, .int .i64 e]) :
    (execOp a.eval o).run Try.prog w = .ok (.value (.agg #[.bool g, .int .i64 m, .int .i64 e])) w := by
  have h := run_loadVar_row (P := Try.prog) w b 23 23 #[.bool g, .int .i64 m, .int .i64 e] (0, 0) _ hN Try.underlying23 rfl size_lreal
  unfold execOp
  simp only [ho, hx, Instr.loadAt, Instr.sureAddr, Sem.run_bind, Sem.run_pure, Result.andThen_ok, h]
end Go.Proofs.Ytoiegaggekgmjaa
