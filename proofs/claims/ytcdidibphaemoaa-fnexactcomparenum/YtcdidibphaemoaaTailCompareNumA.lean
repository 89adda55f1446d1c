/-
  The texts GoodNum, AddZ, SpecCmpNum, ReadNums, MulMath, NumTimes, Small, Added, SumTop, ImplCmpNum, one behind the other, as one.
-/
import Derived.Test.YtcdidibphaemoaaReadNum
import Derived.Test.YtcdidibphaemoaaSpecParts
import Derived.Test.YtcdidibphaemoaaCutNum
import Derived.Test.YtcdidibphaemoaaFlt
import Derived.Test.YtcdidibphaemoaaSpecSum
import Derived.Test.YtcdidibphaemoaaSpecMul
import Derived.Test.YtcdidibphaemoaaStr
import Derived.Test.YtcdidibphaemoaaRep
import Derived.Test.YtcdidibphaemoaaHeldMid
import Derived.Test.YtcdidibphaemoaaTimes
import Derived.Test.YtcdidibphaemoaaIsOne
import Derived.WalkLawsBesides

/-
  What spec.GoodNum and impl.GoodNum answer.
-/
namespace Go.Proofs.Ytcdidibphaemoaa
open Go.RowKit
set_option linter.unusedVariables false

set_option maxHeartbeats 400000 in
theorem specGoodNum_any (s : ByteArray) (w : World) (hs : s.size ≤ maxLen) :
    Calls Try.prog 5 #[.string s] w fun e w' => e = .returned (.bool (okN s.data.toList)) ∧ Below w.heap.size w w' := by
  go_enter Try.func5, Try.ntmps5
  go_wp2_with fail
  refine (l2Parts_any s _ hs).mono ?_
  rintro e w1 ⟨⟨g, t, u, rfl, _⟩, hW⟩
  obtain ⟨b, hb⟩ : ∃ b, b = okN s.data.toList := ⟨_, rfl⟩
  rw [← hb]
  have HB := hideT' hb
  clear hb
  go_wp2
  go_ret
  exact ⟨by rw [← HB.out]; rfl, hW⟩

set_option maxHeartbeats 400000 in
theorem implGoodNum_any (s : ByteArray) (w : World) (hs : s.size ≤ maxLen) :
    Calls Try.prog 6 #[.string s] w fun e w' => e = .returned (.bool (okN s.data.toList)) ∧ Below w.heap.size w w' := by
  have hz2 := zero_num.1
  go_enter Try.func6, Try.ntmps6
  go_wp2_with fail
  refine (readNum_any s _ hs).mono ?_
  rintro e w1 ⟨⟨g, k, j, p, q, rfl, hp, hq, _⟩, hW⟩
  obtain ⟨b, hb⟩ : ∃ b, b = okN s.data.toList := ⟨_, rfl⟩
  rw [← hb]
  have HB := hideT' hb
  clear hb
  have F := NumAt.new w1 false 0 zP 0 zP
  go_wp2_with (refine store_num rfl _ _ rfl rfl w1.heap.size g k p j q rfl rfl false 0 zP 0 zP F zP_len zP_len hp hq ?_; intro w2 hN2 hg2 hs2)
  go_ret
  refine ⟨by rw [← HB.out]; rfl, (hW.alloc hW.size _).grown hg2 (by have := hW.size; simp; omega) (by intro k hk; cases hk; exact hW.size)⟩
end Go.Proofs.Ytcdidibphaemoaa

/-
  The top and the bottom of a sum of fractions: plain facts.
-/
namespace Go.Proofs.Ytcdidibphaemoaa
set_option linter.unusedVariables false

/-- The top of the sum. -/
def topZ (g : Bool) (n m : Nat) (g' : Bool) (n' m' : Nat) : Int := sg g n * (m' : Int) + sg g' n' * (m : Int)
theorem sg_mulN (g : Bool) (n m : Nat) : sg g (n * m) = sg g n * (m : Int) := by
  unfold sg; cases g <;> simp [Int.neg_mul]
theorem topZ_eq (g : Bool) (n m : Nat) (g' : Bool) (n' m' : Nat) : sg g (n * m') + sg g' (n' * m) = topZ g n m g' n' m' := by
  unfold topZ; rw [sg_mulN, sg_mulN]
theorem topZ_abs (g : Bool) (n m : Nat) (g' : Bool) (n' m' : Nat) : (topZ g n m g' n' m').natAbs ≤ n * m' + n' * m := by
  rw [← topZ_eq]
  have h1 := sg_abs g (n * m')
  have h2 := sg_abs g' (n' * m)
  omega

/-- What is to be told of a sum, or of a difference where less says so. -/
def addZ (less : Bool) (a b : ByteArray) : Int := topZ (negN a.data.toList) (topN a.data.toList) (botN a.data.toList) (negN b.data.toList != less) (topN b.data.toList) (botN b.data.toList)
def addBot (a b : ByteArray) : Nat := botN a.data.toList * botN b.data.toList
theorem okN_bot' {l : List UInt8} (h : okN l = true) : botN l ≠ 0 := by
  unfold okN at h
  unfold botN
  cases hb : brokenN l with
  | false => simp
  | true =>
    rw [hb] at h
    simp only [Bool.and_eq_true, Bool.not_true, Bool.false_or, decide_eq_true_eq] at h
    rw [if_pos rfl]
    exact h.2.2.1
theorem okN_neg' {l : List UInt8} (h : okN l = true) (hn : negN l = true) : topN l ≠ 0 := by
  unfold okN at h
  unfold topN
  rw [hn] at h
  simp only [Bool.and_eq_true, Bool.true_and, Bool.not_eq_true', decide_eq_false_iff_not] at h
  exact h.1.2
theorem sg_neg (h : Bool) (N : Nat) : (h && decide (N ≠ 0)) = decide (sg h N < 0) := by
  unfold sg
  by_cases hN : N = 0
  · subst hN; cases h <;> rfl
  · rw [decide_eq_true hN, Bool.and_true]
    cases h with
    | true => simp <;> omega
    | false => simp <;> omega
theorem sg_turn (h : Bool) (N : Nat) : sg (h && decide (N ≠ 0)) N = sg h N := by
  unfold sg
  by_cases hN : N = 0
  · subst hN; cases h <;> rfl
  · rw [decide_eq_true hN, Bool.and_true]

end Go.Proofs.Ytcdidibphaemoaa

/-
  What CompareNum should answer, and what spec.l2Compare and spec.CompareNum answer.
-/
namespace Go.Proofs.Ytcdidibphaemoaa
open Go.RowKit
set_option linter.unusedVariables false

def sgnZ (z : Int) : Int := if z = 0 then 0 else if z < 0 then -1 else 1
def CmpNAns (a b : ByteArray) (e : Ending) : Prop :=
  ((okN a.data.toList && okN b.data.toList) = true ∧ e = .returned (.tuple #[.int .i64 (sgnZ (addZ true a b)), .bool true])) ∨ ((okN a.data.toList && okN b.data.toList) = false ∧ e = .returned (.tuple #[.int .i64 0, .bool false]))
theorem CmpNAns.same {a b : ByteArray} {e e' : Ending} (h : CmpNAns a b e) (h' : CmpNAns a b e') : ∃ (c : Int) (o : Bool), e = .returned (.tuple #[.int .i64 c, .bool o]) ∧ e' = .returned (.tuple #[.int .i64 c, .bool o]) := by
  rcases h with ⟨g1, h⟩ | ⟨g1, h⟩ <;> rcases h' with ⟨g2, h'⟩ | ⟨g2, h'⟩
  · exact ⟨_, _, h, h'⟩
  · rw [g1] at g2; cases g2
  · rw [g1] at g2; cases g2
  · exact ⟨_, _, h, h'⟩
theorem good_size2 {s : ByteArray} (h : goodB s.data.toList = true) : s.size ≤ 600 := by have := good_len h; simpa using this
theorem mul_size2 {s : ByteArray} {n m : Nat} (hc : canonB s.data.toList = true) (hv : dval s.data.toList = n * m) (hn : n < 10 ^ 600) (hm : m < 10 ^ 600) : s.size ≤ 1200 := by
  have h1 := mul_lt_pow 600 600 hn hm
  rw [← hv] at h1
  have := (canon_len_le hc (600 + 600) (by omega)).2 h1
  simpa using this

set_option maxHeartbeats 1000000 in
set_option maxRecDepth 100000 in
theorem l2Compare_any (a b : ByteArray) (w : World) (hsa : a.size ≤ maxLen) (hsb : b.size ≤ maxLen) (ha : okN a.data.toList = true) (hb : okN b.data.toList = true) :
    Calls Try.prog 11 #[.string a, .string b] w fun e w' => e = .returned (.int .i64 (sgnZ (addZ true a b))) ∧ Below w.heap.size w w' := by
  have HOA := hideT ha
  have HOB := hideT hb
  clear ha hb
  go_enter Try.func11, Try.ntmps11
  go_wp2_with fail
  refine (l2Parts_any a _ hsa).mono ?_
  rintro e w1 ⟨⟨g, t, u, rfl, hRa⟩, hW1⟩
  rw [HOA.out] at hRa ⊢
  have HRA := hideT hRa
  clear hRa
  go_wp2_with fail
  refine (l2Parts_any b _ hsb).mono ?_
  rintro e w2 ⟨⟨g', t', u', rfl, hRb⟩, hW2⟩
  rw [HOB.out] at hRb ⊢
  have HRB := hideT hRb
  have hB2 : Below w.heap.size w w2 := hW1.trans (hW2.mono hW1.size)
  clear hRb hW1 hW2
  obtain ⟨hg, g1, v1, g2, v2⟩ := HRA.out (by first | rfl | trivial)
  obtain ⟨hg', g1', v1', g2', v2'⟩ := HRB.out (by first | rfl | trivial)
  have ht := good_size2 g1
  have hu := good_size2 g2
  have ht' := good_size2 g1'
  have hu' := good_size2 g2'
  have HG := hideT (And.intro hg hg')
  have HC := hideT (And.intro (And.intro (good_canon g1) (good_canon g2)) (And.intro (good_canon g1') (good_canon g2')))
  have HV := hideT (And.intro (And.intro v1 v2) (And.intro v1' v2'))
  have HL := hideT (And.intro (And.intro (good_lt' g1) (good_lt' g2)) (And.intro (good_lt' g1') (good_lt' g2')))
  clear hg g1 v1 g2 v2 hg' g1' v1' g2' v2' HRA HRB
  go_wp2_with fail
  refine (l1Mul_any t u' _ ht hu' HC.out.1.1 HC.out.2.2).mono ?_
  rintro e w3 ⟨x, rfl, hcx, hvx, hW3⟩
  have hxs : x.size ≤ 1200 := mul_size2 hcx hvx HL.out.1.1 HL.out.2.2
  have HX := hideT (And.intro hcx hvx)
  have hB3 : Below w.heap.size w w3 := hB2.trans (hW3.mono hB2.size)
  clear hcx hvx hW3 hB2
  go_wp2_with fail
  refine (l1Mul_any t' u _ ht' hu HC.out.2.1 HC.out.1.2).mono ?_
  rintro e w4 ⟨y, rfl, hcy, hvy, hW4⟩
  have hys : y.size ≤ 1200 := mul_size2 hcy hvy HL.out.2.1 HL.out.1.2
  have HY := hideT (And.intro hcy hvy)
  have hB4 : Below w.heap.size w w4 := hB3.trans (hW4.mono hB3.size)
  clear hcy hvy hW4 hB3
  go_wp2_with fail
  refine (l2Sum_any g (!g') x y _ (by omega) (by omega) HX.out.1 HY.out.1).mono ?_
  rintro e w5 ⟨⟨h, s, rfl, hcs, hvs⟩, hW5⟩
  have h1 : sg h (dval s.data.toList) = addZ true a b := by
    rw [hvs, HX.out.2, HY.out.2, HV.out.1.1, HV.out.1.2, HV.out.2.1, HV.out.2.2, topZ_eq, HG.out.1, HG.out.2]
    unfold addZ
    cases negN b.data.toList <;> rfl
  have hB5 : Below w.heap.size w w5 := hB4.trans (hW5.mono hB4.size)
  by_cases hz : s.data.toList = [48]
  · have HE : Hid (sgnZ (addZ true a b) = 0) := by
      rw [(canon_zero hcs).2 hz] at h1
      unfold Hid sgnZ
      rw [← h1]; cases h <;> rfl
    have hz' : (s.toList == [48]) = true := str_eq hz
    clear hz h1 hcs hvs hW5 hB4
    go_wp2
    go_ret
    exact ⟨by rw [HE.out]; rfl, hB5⟩
  · have h0 : dval s.data.toList ≠ 0 := fun e => hz ((canon_zero hcs).1 e)
    have hz' : (s.toList == [48]) = false := str_ne hz
    cases h with
    | true =>
      have HE : Hid (sgnZ (addZ true a b) = -1) := by
        unfold Hid sgnZ
        rw [← h1]
        simp only [sg, if_true]
        rw [if_neg (by omega), if_pos (by omega)]
      clear hz h0 h1 hcs hvs hW5 hB4
      go_wp2
      go_ret
      exact ⟨by rw [HE.out]; rfl, hB5⟩
    | false =>
      have HE : Hid (sgnZ (addZ true a b) = 1) := by
        unfold Hid sgnZ
        rw [← h1]
        simp only [sg, Bool.false_eq_true, if_false]
        rw [if_neg (by omega), if_neg (by omega)]
      clear hz h0 h1 hcs hvs hW5 hB4
      go_wp2
      go_ret
      exact ⟨by rw [HE.out]; rfl, hB5⟩

set_option maxHeartbeats 400000 in
theorem specCmpNum_any (a b : ByteArray) (w : World) (hsa : a.size ≤ maxLen) (hsb : b.size ≤ maxLen) :
    Calls Try.prog 7 #[.string a, .string b] w fun e w' => CmpNAns a b e ∧ Below w.heap.size w w' := by
  go_enter Try.func7, Try.ntmps7
  go_wp2_with fail
  refine (specGoodNum_any a _ hsa).mono ?_
  rintro e w1 ⟨rfl, hW1⟩
  cases hoa : okN a.data.toList with
  | false =>
    have HI : Hid (CmpNAns a b (.returned (.tuple #[.int .i64 0, .bool false]))) := .inr ⟨by rw [hoa]; rfl, rfl⟩
    clear hoa
    go_wp2
    go_ret2
    exact ⟨HI.out, hW1⟩
  | true =>
    have HOA := hideT hoa
    clear hoa
    go_wp2_with fail
    refine (specGoodNum_any b _ hsb).mono ?_
    rintro e w2 ⟨rfl, hW2⟩
    have hB2 : Below w.heap.size w w2 := hW1.trans (hW2.mono hW1.size)
    cases hob : okN b.data.toList with
    | false =>
      have HI : Hid (CmpNAns a b (.returned (.tuple #[.int .i64 0, .bool false]))) := .inr ⟨by rw [hob, Bool.and_false], rfl⟩
      clear hob
      go_wp2
      go_ret2
      exact ⟨HI.out, hB2⟩
    | true =>
      have HOB := hideT hob
      clear hob
      go_wp2_with fail
      refine (l2Compare_any a b _ hsa hsb HOA.out HOB.out).mono ?_
      rintro e w3 ⟨rfl, hW3⟩
      have hB3 : Below w.heap.size w w3 := hB2.trans (hW3.mono hB2.size)
      have HI : Hid (CmpNAns a b (.returned (.tuple #[.int .i64 (sgnZ (addZ true a b)), .bool true]))) := .inl ⟨by rw [HOA.out, HOB.out]; rfl, rfl⟩
      obtain ⟨c, hc⟩ : ∃ c, c = sgnZ (addZ true a b) := ⟨_, rfl⟩
      rw [← hc] at HI ⊢
      clear hc
      go_wp2
      go_ret2
      exact ⟨HI.out, hB3⟩
end Go.Proofs.Ytcdidibphaemoaa

/-
  What impl.readNums answers: two texts as fractions.
-/
namespace Go.Proofs.Ytcdidibphaemoaa
open Go.RowKit
set_option linter.unusedVariables false

/-- A fraction is read whole, ahead of all else. -/
theorem held_load_num {ops : Array Oper} {Q : Exit → Act → World → Prop} {md : Region.Mode} {S : World → Prop} {o : Oper} {fuel : Nat} {listed : Array Bool} {a : Act} {w : World} (i : Nat) (d : Option Tmp) (hi : ops[i]? = some o) (hd : o.dst = d) (hs : Region.noSelect ops = true) (hf : Region.free md ops listed i = true) (hr : (Region.ready md ops listed).contains i = true)
    (hQ : ∀ c a d v w, Q (.panic c) (Act.put a d v) w → Q (.panic c) a w) (hw : Region.wanted o (yielded ops a.tmps) = true) (x : Operand) (ho : o.op = .load 34 x)
    (b : Nat) (hx : a.eval x = .pointer (some ⟨b, 0, none⟩)) (g : Bool) (u : Int) (p : List Int) (v : Int) (q : List Int) (hN : ∀ w, S w → NumAt w b g u p v q) (hl : p.length = 204) (hm : q.length = 204) (hS : S w)
    (h : wpAnyH Try.prog md ops Q S fuel (listed.setIfInBounds i true) (a.put d (.agg (numC g u p v q))) w) : wpAnyH Try.prog md ops Q S (fuel + 1) listed a w := by
  subst hd
  exact wpAnyH_take hi hs hf hr (fun c a w => hQ c a _ _ w) (.inl ⟨hw, fun w hw' => by
    unfold execOp
    simp only [ho, hx, Instr.loadAt, Instr.sureAddr, Sem.run_bind, Sem.run_pure, Result.andThen_ok, run_loadVar_row w b 34 34 (numC g u p v q) (0, 0) _ (hN w hw') Try.underlying34 rfl (num_info g u p v q hl hm)]⟩) hS h

theorem res_num2_tmp {fn : Func} {x y u : Tmp} (h : fn.results = #[.cell x 34, .cell y 34, .tmp u]) (tmps : Array Value) (w : World) (b c : Nat) (g g' : Bool) (n m n' m' : Int) (p q p' q' : List Int) (v : Value)
    (hx : tmps.getD x undef = .pointer (some ⟨b, 0, none⟩)) (hy : tmps.getD y undef = .pointer (some ⟨c, 0, none⟩)) (hv : tmps.getD u undef = v) (hN : NumAt w b g n p m q) (hM : NumAt w c g' n' p' m' q') (hl : p.length = 204) (hm : q.length = 204) (hl' : p'.length = 204) (hm' : q'.length = 204) :
    (results fn tmps).run Try.prog w = .ok (.tuple #[.agg (numC g n p m q), .agg (numC g' n' p' m' q'), v]) w := by
  have e1 := run_loadVar_row w b 34 34 (numC g n p m q) (0, 0) _ hN Try.underlying34 rfl (num_info g n p m q hl hm)
  have e2 := run_loadVar_row w c 34 34 (numC g' n' p' m' q') (0, 0) _ hM Try.underlying34 rfl (num_info g' n' p' m' q' hl' hm')
  have hx' : tmps[x]?.getD undef = .pointer (some ⟨b, 0, none⟩) := by simpa using hx
  have hy' : tmps[y]?.getD undef = .pointer (some ⟨c, 0, none⟩) := by simpa using hy
  have hv' : tmps[u]?.getD undef = v := by simpa using hv
  simp [results, h, hx', hy', hv', asAddr, e1, e2]

/-- What is read of a text. -/
def OneN (l : List UInt8) (g : Bool) (k j : Nat) (p q : List Int) : Prop := p.length = 204 ∧ q.length = 204 ∧ (okN l = true → g = negN l ∧ Rep (topN l) k p ∧ Rep (botN l) j q ∧ k ≤ 100 ∧ j ≤ 100 ∧ j ≠ 0)

set_option maxHeartbeats 1000000 in
set_option maxRecDepth 100000 in
theorem readNums_any (a b : ByteArray) (w : World) (hsa : a.size ≤ maxLen) (hsb : b.size ≤ maxLen) :
    Calls Try.prog 12 #[.string a, .string b] w fun e w' => ∃ (g g' : Bool) (k j k' j' : Nat) (p q p' q' : List Int), e = .returned (.tuple #[.agg (numC g k p j q), .agg (numC g' k' p' j' q'), .bool (okN a.data.toList && okN b.data.toList)]) ∧ OneN a.data.toList g k j p q ∧ OneN b.data.toList g' k' j' p' q' ∧ Below w.heap.size w w' := by
  have hz := zero_num.1
  have A : NumAt ((w.alloc (.cells (numC false 0 zP 0 zP) 34)).alloc (.cells (numC false 0 zP 0 zP) 34)) w.heap.size false 0 zP 0 zP := RowAt.old (NumAt.new w false 0 zP 0 zP) (.cells (numC false 0 zP 0 zP) 34)
  have B := NumAt.new (w.alloc (.cells (numC false 0 zP 0 zP) 34)) false 0 zP 0 zP
  have hB : Below w.heap.size w ((w.alloc (.cells (numC false 0 zP 0 zP) 34)).alloc (.cells (numC false 0 zP 0 zP) 34)) := ((Below.refl _ _).alloc (Nat.le_refl _) _).alloc (by simp) _
  simp only [World.size_alloc] at B
  go_enter Try.func12, Try.ntmps12
  go_wp2_with fail
  refine (readNum_any a _ hsa).mono ?_
  rintro e w1 ⟨⟨g, k, j, p, q, rfl, hp, hq, hR⟩, hW1⟩
  obtain ⟨oa, hoa⟩ : ∃ oa, oa = okN a.data.toList := ⟨_, rfl⟩
  rw [← hoa]
  have HA : Hid (OneN a.data.toList g k j p q) := ⟨hp, hq, hR⟩
  have HOA := hide hoa
  have A1 : NumAt w1 w.heap.size false 0 zP 0 zP := RowAt.below A hW1 (by simp; omega)
  have B1 : NumAt w1 (w.heap.size + 1) false 0 zP 0 zP := RowAt.below B hW1 (by simp)
  have hB1 : Below w.heap.size w w1 := hB.trans (hW1.mono (by simp; omega))
  have hs1 := hW1.size
  simp only [World.size_alloc] at hs1
  clear A B hB hW1 hoa hR
  have C1 := NumAt.new w1 false 0 zP 0 zP
  go_wp2_with (refine store_num rfl _ _ rfl rfl w1.heap.size g k p j q rfl rfl false 0 zP 0 zP C1 zP_len zP_len hp hq ?_; intro w2 hN2 hg2 hs2)
  refine (readNum_any b _ hsb).mono ?_
  rintro e w3 ⟨⟨g', k', j', p', q', rfl, hp', hq', hR'⟩, hW3⟩
  obtain ⟨ob, hob⟩ : ∃ ob, ob = okN b.data.toList := ⟨_, rfl⟩
  rw [← hob]
  have HB : Hid (OneN b.data.toList g' k' j' p' q') := ⟨hp', hq', hR'⟩
  have HOB := hide hob
  have hs3 := hW3.size
  have hlt2 := RowAt.lt hN2
  have A3 : NumAt w3 w.heap.size false 0 zP 0 zP := RowAt.below (RowAt.grown (RowAt.old A1 (.cells (numC false 0 zP 0 zP) 34)) hg2 (by simp; omega)) hW3 (by rw [hs2]; simp; omega)
  have B3 : NumAt w3 (w.heap.size + 1) false 0 zP 0 zP := RowAt.below (RowAt.grown (RowAt.old B1 (.cells (numC false 0 zP 0 zP) 34)) hg2 (by simp; omega)) hW3 (by rw [hs2]; simp; omega)
  have C3 : NumAt w3 w1.heap.size g k p j q := RowAt.below hN2 hW3 hlt2
  have hB3 : Below w.heap.size w w3 := ((hB1.alloc (by omega) _).grown hg2 (by simp; omega) (by intro k hk; cases hk; omega)).trans (hW3.mono (by rw [hs2]; simp; omega))
  rw [hs2] at hs3
  simp only [World.size_alloc] at hs3
  clear A1 B1 C1 hB1 hN2 hg2 hs2 hW3 hlt2 hob hR'
  have D3 := NumAt.new w3 false 0 zP 0 zP
  go_wp2_with (refine store_num rfl _ _ rfl rfl w3.heap.size g' k' p' j' q' rfl rfl false 0 zP 0 zP D3 zP_len zP_len hp' hq' ?_; intro w4 hN4 hg4 hs4)
  have hs4' : w4.heap.size = w3.heap.size + 1 := by rw [hs4]; simp
  have A4 : NumAt w4 w.heap.size false 0 zP 0 zP := RowAt.grown (RowAt.old A3 (.cells (numC false 0 zP 0 zP) 34)) hg4 (by simp; omega)
  have B4 : NumAt w4 (w.heap.size + 1) false 0 zP 0 zP := RowAt.grown (RowAt.old B3 (.cells (numC false 0 zP 0 zP) 34)) hg4 (by simp; omega)
  have C4 : NumAt w4 w1.heap.size g k p j q := RowAt.grown (RowAt.old C3 (.cells (numC false 0 zP 0 zP) 34)) hg4 (by simp; omega)
  have hB4 : Below w.heap.size w w4 := (hB3.alloc (by omega) _).grown hg4 (by simp; omega) (by intro k hk; cases hk; omega)
  clear A3 B3 C3 D3 hB3 hg4 hs4
  clear hz
  have HE : Hid ((okN a.data.toList && okN b.data.toList) = (oa && ob)) := by unfold Hid; rw [← HOA.out, ← HOB.out]
  cases oa with
  | true =>
    refine held_begin (fun w' => NumAt w' w1.heap.size g k p j q ∧ NumAt w' w3.heap.size g' k' p' j' q') (by kernel_rfl) ?_
    have hS : NumAt w4.drew w1.heap.size g k p j q ∧ NumAt w4.drew w3.heap.size g' k' p' j' q' := ⟨C4, hN4⟩
    refine held_load_num 0 (some 21) rfl rfl (by kernel_rfl) (by kernel_rfl) (by kernel_rfl) noPanic_put rfl _ rfl w1.heap.size rfl g k p j q (fun _ h => h.1) hp hq hS ?_
    simp only [Act.put, List.setIfInBounds_toArray, List.set_cons_zero, List.set_cons_succ]
    refine held_load_num 1 (some 22) rfl rfl (by kernel_rfl) (by kernel_rfl) (by kernel_rfl) noPanic_put rfl _ rfl w3.heap.size rfl g' k' p' j' q' (fun _ h => h.2) hp' hq' hS ?_
    simp only [Act.put, List.setIfInBounds_toArray, List.set_cons_zero, List.set_cons_succ]
    refine held_val 2 (some 23) rfl rfl (by kernel_rfl) (by kernel_rfl) (by kernel_rfl) noPanic_put rfl (.bool true) (fun _ => rfl) hS ?_
    simp only [Act.put, List.setIfInBounds_toArray, List.set_cons_zero, List.set_cons_succ]
    refine held_val 3 (some 24) rfl rfl (by kernel_rfl) (by kernel_rfl) (by kernel_rfl) noPanic_put rfl (.bool true) (fun _ => rfl) hS ?_
    simp only [Act.put, List.setIfInBounds_toArray, List.set_cons_zero, List.set_cons_succ]
    refine held_val 4 (some 25) rfl rfl (by kernel_rfl) (by kernel_rfl) (by kernel_rfl) noPanic_put rfl (.bool ob) (fun _ => rfl) hS ?_
    simp only [Act.put, List.setIfInBounds_toArray, List.set_cons_zero, List.set_cons_succ]
    refine held_val 5 (some 26) rfl rfl (by kernel_rfl) (by kernel_rfl) (by kernel_rfl) noPanic_put rfl (.bool ob) (fun _ => rfl) hS ?_
    simp only [Act.put, List.setIfInBounds_toArray, List.set_cons_zero, List.set_cons_succ]
    refine held_store_num 6 (by kernel_rfl) rfl rfl _ _ rfl rfl w.heap.size g k p j q rfl rfl false 0 zP 0 zP A4 zP_len zP_len hp hq ?_
    intro w5 hN5 hg5 hs5
    have hC5 : NumAt w5 w1.heap.size g k p j q := RowAt.grown (w := w4.drew) C4 hg5 (by simp; omega)
    have hD5 : NumAt w5 w3.heap.size g' k' p' j' q' := RowAt.grown (w := w4.drew) hN4 hg5 (by simp; omega)
    refine ⟨⟨hC5, hD5⟩, ?_⟩
    have B5 : NumAt w5 (w.heap.size + 1) false 0 zP 0 zP := RowAt.grown (w := w4.drew) B4 hg5 (by simp)
    refine held_store_num 7 (by kernel_rfl) rfl rfl _ _ rfl rfl (w.heap.size + 1) g' k' p' j' q' rfl rfl false 0 zP 0 zP B5 zP_len zP_len hp' hq' ?_
    intro w6 hN6 hg6 hs6
    have hS6 : NumAt w6 w1.heap.size g k p j q ∧ NumAt w6 w3.heap.size g' k' p' j' q' := ⟨RowAt.grown hC5 hg6 (by simp; omega), RowAt.grown hD5 hg6 (by simp; omega)⟩
    refine ⟨hS6, ?_⟩
    refine held_assign 8 (some 6) (by kernel_rfl) rfl rfl _ rfl rfl (.bool ob) rfl hS6 ?_
    simp only [Act.put, List.setIfInBounds_toArray, List.set_cons_zero, List.set_cons_succ]
    refine wpAnyH_done (by kernel_rfl) ?_ _
    refine NoPanic.normal ?_
    have M6 : NumAt w6 w.heap.size g k p j q := RowAt.grown hN5 hg6 (by simp)
    go_wp2
    refine bodyPost_ret (v := .tuple #[.agg (numC g k p j q), .agg (numC g' k' p' j' q'), .bool ob]) (res_num2_tmp Try.results12 _ _ w.heap.size (w.heap.size + 1) _ _ _ _ _ _ _ _ _ _ _ rfl rfl rfl M6 hN6 hp hq hp' hq') rfl ⟨g, g', k, j, k', j', p, q, p', q', by rw [HE.out]; rfl, HA.out, HB.out, ?_⟩
    have hB5 : Below w.heap.size w w5 := hB4.drew.grown hg5 (by have := hB4.size; simp; omega) (by intro k hk; cases hk; omega)
    exact hB5.grown hg6 (by have := hB5.size; omega) (by intro k hk; cases hk; omega)
  | false =>
    refine held_begin (fun w' => NumAt w' w1.heap.size g k p j q ∧ NumAt w' w3.heap.size g' k' p' j' q') (by kernel_rfl) ?_
    have hS : NumAt w4.drew w1.heap.size g k p j q ∧ NumAt w4.drew w3.heap.size g' k' p' j' q' := ⟨C4, hN4⟩
    refine held_load_num 0 (some 21) rfl rfl (by kernel_rfl) (by kernel_rfl) (by kernel_rfl) noPanic_put rfl _ rfl w1.heap.size rfl g k p j q (fun _ h => h.1) hp hq hS ?_
    simp only [Act.put, List.setIfInBounds_toArray, List.set_cons_zero, List.set_cons_succ]
    refine held_load_num 1 (some 22) rfl rfl (by kernel_rfl) (by kernel_rfl) (by kernel_rfl) noPanic_put rfl _ rfl w3.heap.size rfl g' k' p' j' q' (fun _ h => h.2) hp' hq' hS ?_
    simp only [Act.put, List.setIfInBounds_toArray, List.set_cons_zero, List.set_cons_succ]
    refine held_val 2 (some 23) rfl rfl (by kernel_rfl) (by kernel_rfl) (by kernel_rfl) noPanic_put rfl (.bool false) (fun _ => rfl) hS ?_
    simp only [Act.put, List.setIfInBounds_toArray, List.set_cons_zero, List.set_cons_succ]
    refine held_val 3 (some 24) rfl rfl (by kernel_rfl) (by kernel_rfl) (by kernel_rfl) noPanic_put rfl (.bool false) (fun _ => rfl) hS ?_
    simp only [Act.put, List.setIfInBounds_toArray, List.set_cons_zero, List.set_cons_succ]
    refine held_skip 4 (some 25) rfl rfl (by kernel_rfl) (by kernel_rfl) (by kernel_rfl) noPanic_put rfl hS ?_
    simp only [Act.put, List.setIfInBounds_toArray, List.set_cons_zero, List.set_cons_succ]
    refine held_val 5 (some 26) rfl rfl (by kernel_rfl) (by kernel_rfl) (by kernel_rfl) noPanic_put rfl (.bool false) (fun _ => rfl) hS ?_
    simp only [Act.put, List.setIfInBounds_toArray, List.set_cons_zero, List.set_cons_succ]
    refine held_store_num 6 (by kernel_rfl) rfl rfl _ _ rfl rfl w.heap.size g k p j q rfl rfl false 0 zP 0 zP A4 zP_len zP_len hp hq ?_
    intro w5 hN5 hg5 hs5
    have hC5 : NumAt w5 w1.heap.size g k p j q := RowAt.grown (w := w4.drew) C4 hg5 (by simp; omega)
    have hD5 : NumAt w5 w3.heap.size g' k' p' j' q' := RowAt.grown (w := w4.drew) hN4 hg5 (by simp; omega)
    refine ⟨⟨hC5, hD5⟩, ?_⟩
    have B5 : NumAt w5 (w.heap.size + 1) false 0 zP 0 zP := RowAt.grown (w := w4.drew) B4 hg5 (by simp)
    refine held_store_num 7 (by kernel_rfl) rfl rfl _ _ rfl rfl (w.heap.size + 1) g' k' p' j' q' rfl rfl false 0 zP 0 zP B5 zP_len zP_len hp' hq' ?_
    intro w6 hN6 hg6 hs6
    have hS6 : NumAt w6 w1.heap.size g k p j q ∧ NumAt w6 w3.heap.size g' k' p' j' q' := ⟨RowAt.grown hC5 hg6 (by simp; omega), RowAt.grown hD5 hg6 (by simp; omega)⟩
    refine ⟨hS6, ?_⟩
    refine held_assign 8 (some 6) (by kernel_rfl) rfl rfl _ rfl rfl (.bool false) rfl hS6 ?_
    simp only [Act.put, List.setIfInBounds_toArray, List.set_cons_zero, List.set_cons_succ]
    refine wpAnyH_done (by kernel_rfl) ?_ _
    refine NoPanic.normal ?_
    have M6 : NumAt w6 w.heap.size g k p j q := RowAt.grown hN5 hg6 (by simp)
    go_wp2
    refine bodyPost_ret (v := .tuple #[.agg (numC g k p j q), .agg (numC g' k' p' j' q'), .bool false]) (res_num2_tmp Try.results12 _ _ w.heap.size (w.heap.size + 1) _ _ _ _ _ _ _ _ _ _ _ rfl rfl rfl M6 hN6 hp hq hp' hq') rfl ⟨g, g', k, j, k', j', p, q, p', q', by rw [HE.out]; rfl, HA.out, HB.out, ?_⟩
    have hB5 : Below w.heap.size w w5 := hB4.drew.grown hg5 (by have := hB4.size; simp; omega) (by intro k hk; cases hk; omega)
    exact hB5.grown hg6 (by have := hB5.size; omega) (by intro k hk; cases hk; omega)
end Go.Proofs.Ytcdidibphaemoaa

/-
  How many parts a product has: plain facts.
-/
namespace Go.Proofs.Ytcdidibphaemoaa
set_option linter.unusedVariables false

theorem Rep.ltN {n k : Nat} {p : List Int} (h : Rep n k p) : n < 1000000 ^ k := by
  have h1 := h.lt
  rw [show (1000000 : Int) ^ k = ((1000000 ^ k : Nat) : Int) by rw [Int.natCast_pow]; rfl] at h1
  exact Int.ofNat_lt.1 h1
theorem Rep.geN {n k : Nat} {p : List Int} (h : Rep n k p) (hk : 0 < k) : 1000000 ^ (k - 1) ≤ n := by
  have h1 := h.ge hk
  rw [show (1000000 : Int) ^ (k - 1) = ((1000000 ^ (k - 1) : Nat) : Int) by rw [Int.natCast_pow]; rfl] at h1
  exact Int.ofNat_le.1 h1
theorem mul_cnt {B n m k j i : Nat} (hB : 1 ≤ B) (hn : n < B ^ k) (hm : m < B ^ j) (hi : B ^ (i - 1) ≤ n * m) : i ≤ k + j := by
  by_cases h : i ≤ k + j
  · exact h
  · have h1 : B ^ (k + j) ≤ B ^ (i - 1) := Nat.pow_le_pow_right hB (by omega)
    have h2 : n * m < B ^ (k + j) := by rw [Nat.pow_add]; exact Nat.mul_lt_mul'' hn hm
    omega
theorem Rep.mul_used {n m k j i : Nat} {p q r : List Int} (hP : Rep n k p) (hQ : Rep m j q) (hR : Rep (n * m) i r) : i ≤ k + j := by
  by_cases h : 0 < i
  · exact mul_cnt (by decide) hP.ltN hQ.ltN (hR.geN h)
  · omega
end Go.Proofs.Ytcdidibphaemoaa

/-
  What times and turned of a fraction of impl answer.
-/
namespace Go.Proofs.Ytcdidibphaemoaa
open Go.RowKit
set_option linter.unusedVariables false

/-- The sign of a whole number. -/
def sgn (g : Bool) (k : Nat) : Int := if k = 0 then 0 else if g then -1 else 1

set_option maxHeartbeats 400000 in
theorem sign_any {k : Nat} {p : List Int} (g : Bool) (w : World) :
    Calls Try.prog 24 #[.agg (wholeC g k p)] w fun e w' => e = .returned (.int .i64 (sgn g k)) ∧ Below w.heap.size w w' := by
  have hz1 := zero_whole.1
  have A := WholeAt.new w g k p
  have hB : Below w.heap.size w (w.alloc (.cells (wholeC g k p) 32)) := (Below.refl _ _).alloc (Nat.le_refl _) _
  have c0 := A.neg
  have c1 := A.used
  by_cases h : k = 0
  · have h' : ((k : Int) == 0) = true := by simp [h]
    have HE : Hid (sgn g k = 0) := if_pos h
    clear h
    go_enter Try.func24, Try.ntmps24
    go_wp2
    go_ret
    exact ⟨by rw [HE.out]; rfl, hB⟩
  · have h' : ((k : Int) == 0) = false := by simp [h]
    have HE : Hid (sgn g k = if g then -1 else 1) := if_neg h
    clear h
    cases g with
    | true =>
      go_enter Try.func24, Try.ntmps24
      go_wp2
      go_ret
      exact ⟨by rw [HE.out]; rfl, hB⟩
    | false =>
      go_enter Try.func24, Try.ntmps24
      go_wp2
      go_ret
      exact ⟨by rw [HE.out]; rfl, hB⟩
end Go.Proofs.Ytcdidibphaemoaa

/-
  Small fractions of impl: isSmall, asComplex, smallWhole; the top of a sum by complex numbers.
-/
namespace Go.Proofs.Ytcdidibphaemoaa
open Go.RowKit
set_option linter.unusedVariables false

theorem NumAt.part0 {w : World} {b : Nat} {g : Bool} {u : Int} {p : List Int} {v : Int} {q : List Int} (h : NumAt w b g u p v q) (hp : p.length = 204) : w.cell? ⟨b, 2, none⟩ = some (.int .i64 (p.getD 0 0)) := by
  rw [cell_of_row w b 2 _ _ _ h]
  cases p with
  | nil => simp at hp
  | cons x p => simp [numC, natL]
theorem NumAt.bpart0 {w : World} {b : Nat} {g : Bool} {u : Int} {p : List Int} {v : Int} {q : List Int} (h : NumAt w b g u p v q) (hp : p.length = 204) (hq : q.length = 204) : w.cell? ⟨b, 207, none⟩ = some (.int .i64 (q.getD 0 0)) := by
  rw [cell_of_row w b 207 _ _ _ h, num_split2]
  simp only [List.getElem?_toArray, List.append_assoc]
  rw [List.getElem?_append_right (by simp [natL_len, hp])]
  cases q with
  | nil => simp at hq
  | cons x q => simp [hp, natL]

theorem Rep.little {n k : Nat} {p : List Int} (h : Rep n k p) (hk : k ≤ 1) : p.getD 0 0 = (n : Int) ∧ n < 1000000 := by
  have hp := h.len
  have hv := h.val
  rw [vb_split 1000000 p 1 (by omega), vb_zero _ (p.drop 1) (fun i => by rw [getD_drop]; exact h.out _ (by omega))] at hv
  have ht : p.take 1 = [p.getD 0 0] := by
    cases p with
    | nil => simp at hp
    | cons x p => simp
  rw [ht] at hv
  simp only [vb, Int.mul_zero, Int.add_zero] at hv
  have := h.hi 0
  omega

set_option maxHeartbeats 400000 in
theorem isSmall_any {k j : Nat} {p q : List Int} (g : Bool) (w : World) (hp : p.length = 204) :
    Calls Try.prog 42 #[.agg (numC g k p j q)] w fun e w' => e = .returned (.bool (decide (k ≤ 1) && decide (j ≤ 1))) ∧ Below w.heap.size w w' := by
  have A := NumAt.new w g k p j q
  have hB : Below w.heap.size w (w.alloc (.cells (numC g k p j q) 34)) := (Below.refl _ _).alloc (Nat.le_refl _) _
  have c1 := A.used
  have c2 := A.bused hp
  by_cases hk : (k : Int) ≤ 1
  · by_cases hj : (j : Int) ≤ 1
    · rw [decide_eq_true (show k ≤ 1 by omega), decide_eq_true (show j ≤ 1 by omega)]
      go_enter Try.func42, Try.ntmps42
      go_wp2
      go_ret
      exact ⟨rfl, hB⟩
    · rw [decide_eq_true (show k ≤ 1 by omega), decide_eq_false (show ¬ j ≤ 1 by omega)]
      go_enter Try.func42, Try.ntmps42
      go_wp2
      go_ret
      exact ⟨rfl, hB⟩
  · rw [decide_eq_false (show ¬ k ≤ 1 by omega)]
    go_enter Try.func42, Try.ntmps42
    go_wp2
    go_ret
    exact ⟨rfl, hB⟩

set_option maxHeartbeats 400000 in
theorem asComplex_any {n m k j : Nat} {p q : List Int} (g : Bool) (w : World) (hP : Rep n k p) (hQ : Rep m j q) (hk : k ≤ 1) (hj : j ≤ 1) :
    Calls Try.prog 44 #[.agg (numC g k p j q)] w fun e w' => ∃ x y : Nat, e = .returned (.complex .f64 x y) ∧ F64 x (m : Int) ∧ F64 y (sg g n) ∧ Below w.heap.size w w' := by
  have A := NumAt.new w g k p j q
  have hB : Below w.heap.size w (w.alloc (.cells (numC g k p j q) 34)) := (Below.refl _ _).alloc (Nat.le_refl _) _
  have c0 := A.neg
  have c1 := A.part0 hP.len
  have c2 := A.bpart0 hP.len hQ.len
  obtain ⟨e1, h1⟩ := hP.little hk
  obtain ⟨e2, h2⟩ := hQ.little hj
  rw [e1] at c1
  rw [e2] at c2
  have HF := hide (And.intro (F64.ofNat n (by omega)) (F64.ofNat m (by omega)))
  clear e1 e2 h1 h2 hP hQ
  have hneg : ∀ (x : Nat) (w : World), Sem.run Try.prog (Op.unary UnOp.neg (Value.float FloatKind.f64 x)) w = Result.ok (.float .f64 (Op.negFloat .f64 x)) w := fun _ _ => rfl
  cases g with
  | true =>
    go_enter Try.func44, Try.ntmps44
    go_wp2
    go_ret
    exact ⟨_, _, rfl, HF.out.2.1, HF.out.1.2, hB⟩
  | false =>
    go_enter Try.func44, Try.ntmps44
    go_wp2
    go_ret
    exact ⟨_, _, rfl, HF.out.2.1, HF.out.1.1, hB⟩

set_option maxHeartbeats 1000000 in
set_option maxRecDepth 100000 in
theorem smallWhole_any (z : Int) (w : World) (h1 : -400000000000000 ≤ z) (h2 : z ≤ 400000000000000) :
    Calls Try.prog 43 #[.int .i64 z] w fun e w' => ∃ (i : Nat) (r : List Int), e = .returned (.agg (wholeC (decide (z < 0)) i r)) ∧ Rep z.natAbs i r ∧ Below w.heap.size w w' := by
  have hz1 := zero_whole.1
  have C := WholeAt.new w false 0 zP
  have hB : Below w.heap.size w (w.alloc (.cells (wholeC false 0 zP) 32)) := (Below.refl _ _).alloc (Nat.le_refl _) _
  by_cases hz : z < 0
  · rw [decide_eq_true hz]
    go_enter Try.func43, Try.ntmps43
    go_wp2_with fail
    refine (natOf_any z.natAbs (-z) _ (by omega) (by omega) (by omega)).mono ?_
    rintro e w1 ⟨i, r, rfl, hR, hW1⟩
    have hr := hR.len
    have HR := hide hR
    have C1 : WholeAt w1 w.heap.size false 0 zP := RowAt.below C hW1 (by simp)
    have hB1 : Below w.heap.size w w1 := hB.trans (hW1.mono (by simp))
    clear hR C hB hW1
    go_wp2_with (first | (refine build_whole rfl _ _ rfl _ rfl true i r hr rfl rfl ?_) | (refine store_whole rfl _ _ rfl rfl w.heap.size true i r rfl rfl false 0 zP C1 zP_len hr ?_; intro w2 hN2 hg2 hs2))
    refine bodyPost_ret (v := .agg (wholeC true i r)) (res_whole Try.results43 _ _ w.heap.size _ _ _ rfl hN2 hr) rfl ⟨i, r, rfl, HR.out, ?_⟩
    exact hB1.grown hg2 (by have := hB1.size; omega) (by intro k hk; cases hk; omega)
  · rw [decide_eq_false hz]
    go_enter Try.func43, Try.ntmps43
    go_wp2_with fail
    refine (natOf_any z.natAbs z _ (by omega) (by omega) (by omega)).mono ?_
    rintro e w1 ⟨i, r, rfl, hR, hW1⟩
    have hr := hR.len
    have HR := hide hR
    have C1 : WholeAt w1 w.heap.size false 0 zP := RowAt.below C hW1 (by simp)
    have hB1 : Below w.heap.size w w1 := hB.trans (hW1.mono (by simp))
    clear hR C hB hW1
    go_wp2_with (first | (refine build_whole rfl _ _ rfl _ rfl false i r hr rfl rfl ?_) | (refine store_whole rfl _ _ rfl rfl w.heap.size false i r rfl rfl false 0 zP C1 zP_len hr ?_; intro w2 hN2 hg2 hs2))
    refine bodyPost_ret (v := .agg (wholeC false i r)) (res_whole Try.results43 _ _ w.heap.size _ _ _ rfl hN2 hr) rfl ⟨i, r, rfl, HR.out, ?_⟩
    exact hB1.grown hg2 (by have := hB1.size; omega) (by intro k hk; cases hk; omega)
end Go.Proofs.Ytcdidibphaemoaa

/-
  What scaled and added of impl's whole numbers, and negated of its fractions, answer.
-/
namespace Go.Proofs.Ytcdidibphaemoaa
open Go.RowKit
set_option linter.unusedVariables false

/-- The one operation that may come up: a whole number is written whole. -/
theorem held_store_whole {ops : Array Oper} {Q : Exit → Act → World → Prop} {md : Region.Mode} {S : World → Prop} {o : Oper} {fuel : Nat} {listed : Array Bool} {a : Act} {w : World} (i : Nat) (hr : Region.ready md ops listed = [i]) (hi : ops[i]? = some o) (hw : Region.wanted o (yielded ops a.tmps) = true) (x y : Operand) (ho : o.op = .store 32 x y) (hd : o.dst = none)
    (b : Nat) (g : Bool) (u : Int) (p : List Int) (hx : a.eval x = .pointer (some ⟨b, 0, none⟩)) (hy : a.eval y = .agg (wholeC g u p)) (g0 : Bool) (u0 : Int) (p0 : List Int) (hN : WholeAt w b g0 u0 p0) (h0 : p0.length = 204) (hl : p.length = 204)
    (h : ∀ w', WholeAt w' b g u p → w.grownBy w' (some b) → w'.heap.size = w.heap.size → S w' ∧ wpAnyH Try.prog md ops Q S fuel (listed.setIfInBounds i true) a w') : wpAnyH Try.prog md ops Q S (fuel + 1) listed a w := by
  refine wpAnyH_ready hr (by simp) (AllReadyH.cons hi (fun K hK => ?_) AllReadyH.nil)
  rw [if_pos hw]
  refine wp_store_row 32 x y ho b (wholeC g u p) hx hy 32 (wholeC g0 u0 p0) hN (whole_info g u p hl) (by rw [wholeC_size, wholeC_size, h0, hl]) (wholeC_one _ _ _) ?_
  rw [hd]
  have := h _ (setRow_heap w b _ _ _ _ hN) ⟨rfl, rfl, rfl, by simp, fun k _ hne => setRow_other w b k _ (by intro e; exact hne (by rw [e]))⟩ (by simp)
  exact hK.out _ _ this.1 (fun _ => this.2)

theorem run_row_nat' {o : Oper} {a : Act} {w : World} (x : Operand) (ho : o.op = .load 30 x) (b : Nat) (hx : a.eval x = .pointer (some ⟨b, 0, none⟩)) (u : Int) (p : List Int) (hN : NatAt w b u p) (hl : p.length = 204) : (execOp a.eval o).run Try.prog w = .ok (.value (.agg (natC u p))) w := by
  unfold execOp
  simp only [ho, hx, Instr.loadAt, Instr.sureAddr, Sem.run_bind, Sem.run_pure, Result.andThen_ok, run_loadVar_row w b 30 30 (natC u p) (0, 0) _ hN Try.underlying30 rfl (nat_info u p hl)]

set_option maxHeartbeats 1000000 in
set_option maxRecDepth 100000 in
theorem scaled_any {n m k j : Nat} {p q : List Int} (g : Bool) (w : World) (hP : Rep n k p) (hQ : Rep m j q) (hk : k ≤ 100) (hj : j ≤ 100) :
    Calls Try.prog 45 #[.agg (wholeC g k p), .agg (natC j q)] w fun e w' => ∃ (i : Nat) (r : List Int), e = .returned (.agg (wholeC g i r)) ∧ Rep (n * m) i r ∧ Below w.heap.size w w' := by
  have hz := zero_nat.1
  have hz1 := zero_whole.1
  have hp := hP.len
  have hq := hQ.len
  have A : WholeAt (((w.alloc (.cells (wholeC g k p) 32)).alloc (.cells (natC j q) 30)).alloc (.cells (wholeC false 0 zP) 32)) w.heap.size g k p := RowAt.old (RowAt.old (WholeAt.new w g k p) _) _
  have B : NatAt (((w.alloc (.cells (wholeC g k p) 32)).alloc (.cells (natC j q) 30)).alloc (.cells (wholeC false 0 zP) 32)) (w.heap.size + 1) j q := by
    have := (NatAt.new (w.alloc (.cells (wholeC g k p) 32)) j q).old (.cells (wholeC false 0 zP) 32)
    simp only [World.size_alloc] at this; exact this
  have C : WholeAt (((w.alloc (.cells (wholeC g k p) 32)).alloc (.cells (natC j q) 30)).alloc (.cells (wholeC false 0 zP) 32)) (w.heap.size + 1 + 1) false 0 zP := by
    have := WholeAt.new ((w.alloc (.cells (wholeC g k p) 32)).alloc (.cells (natC j q) 30)) false 0 zP
    simp only [World.size_alloc] at this; exact this
  have hB : Below w.heap.size w (((w.alloc (.cells (wholeC g k p) 32)).alloc (.cells (natC j q) 30)).alloc (.cells (wholeC false 0 zP) 32)) := (((Below.refl _ _).alloc (Nat.le_refl _) _).alloc (by simp) _).alloc (by simp; omega) _
  obtain ⟨W, hWd⟩ : ∃ W, W = (((w.alloc (.cells (wholeC g k p) 32)).alloc (.cells (natC j q) 30)).alloc (.cells (wholeC false 0 zP) 32)) := ⟨_, rfl⟩
  have hWs : W.heap.size = w.heap.size + 1 + 1 + 1 := by rw [hWd]; simp
  have HP := hide (And.intro hP hQ)
  clear hP hQ
  go_enter Try.func45, Try.ntmps45
  go_wp2_with fail
  rw [← hWd] at A B C hB ⊢
  clear hWd
  refine held_begin (fun w' => WholeAt w' w.heap.size g k p ∧ NatAt w' (w.heap.size + 1) j q) (by kernel_rfl) ?_
  have hS : WholeAt W.drew w.heap.size g k p ∧ NatAt W.drew (w.heap.size + 1) j q := ⟨A, B⟩
  refine held_valS 0 (some 5) rfl rfl (by kernel_rfl) (by kernel_rfl) (by kernel_rfl) noPanic_put rfl (.pointer (some ⟨w.heap.size, 0, none⟩)) (fun _ _ => by go_simp) hS ?_
  simp only [Act.put, List.setIfInBounds_toArray, List.set_cons_zero, List.set_cons_succ]
  refine held_valS 1 (some 6) rfl rfl (by kernel_rfl) (by kernel_rfl) (by kernel_rfl) noPanic_put rfl (.bool g) (fun _ h => by have c := h.1.neg; go_simp) hS ?_
  simp only [Act.put, List.setIfInBounds_toArray, List.set_cons_zero, List.set_cons_succ]
  refine held_valS 2 (some 7) rfl rfl (by kernel_rfl) (by kernel_rfl) (by kernel_rfl) noPanic_put rfl (.pointer (some ⟨w.heap.size, 1, none⟩)) (fun _ _ => by go_simp) hS ?_
  simp only [Act.put, List.setIfInBounds_toArray, List.set_cons_zero, List.set_cons_succ]
  refine held_valS 3 (some 8) rfl rfl (by kernel_rfl) (by kernel_rfl) (by kernel_rfl) noPanic_put rfl (.agg (natC k p)) (fun _ h => run_mid_nat _ rfl w.heap.size 1 rfl k p h.1.size hp) hS ?_
  simp only [Act.put, List.setIfInBounds_toArray, List.set_cons_zero, List.set_cons_succ]
  refine held_valS 4 (some 9) rfl rfl (by kernel_rfl) (by kernel_rfl) (by kernel_rfl) noPanic_put rfl (.agg (natC j q)) (fun _ h => run_row_nat' _ rfl (w.heap.size + 1) rfl j q h.2 hq) hS ?_
  simp only [Act.put, List.setIfInBounds_toArray, List.set_cons_zero, List.set_cons_succ]
  refine held_call 5 (some 10) (by kernel_rfl) rfl rfl rfl 59 #[.agg (natC k p), .agg (natC j q)] (by go_simp) _ (times_any W.drew HP.out.1 HP.out.2 hk hj) ?_
  rintro e w1 ⟨i, r, rfl, hR1, hW1⟩
  have hW1 : Below W.heap.size W w1 := ⟨hW1.os, hW1.tape, hW1.output, hW1.size, hW1.block⟩
  have hs1 := hW1.size
  have hr := hR1.len
  have HR1 := hide hR1
  have S1 : WholeAt w1 w.heap.size g k p ∧ NatAt w1 (w.heap.size + 1) j q := ⟨RowAt.below A hW1 (by omega), B.below hW1 (by omega)⟩
  have C1 : WholeAt w1 (w.heap.size + 1 + 1) false 0 zP := RowAt.below C hW1 (by omega)
  have hB1 : Below w.heap.size w w1 := hB.trans (hW1.mono hB.size)
  clear A B C hB hS hR1 hW1
  refine ⟨_, rfl, S1, ?_⟩
  simp only [Act.put, List.setIfInBounds_toArray, List.set_cons_zero, List.set_cons_succ]
  refine held_valS 6 (some 11) rfl rfl (by kernel_rfl) (by kernel_rfl) (by kernel_rfl) noPanic_put rfl (.agg (wholeC g i r)) (fun _ _ => run_bw _ _ rfl g i r hr rfl rfl) S1 ?_
  simp only [Act.put, List.setIfInBounds_toArray, List.set_cons_zero, List.set_cons_succ]
  refine held_store_whole 7 (by kernel_rfl) rfl rfl _ _ rfl rfl (w.heap.size + 1 + 1) g i r rfl rfl false 0 zP C1 zP_len hr ?_
  intro w2 hN2 hg2 hs2
  refine ⟨⟨RowAt.grown S1.1 hg2 (by simp; omega), S1.2.grown hg2 (by simp)⟩, ?_⟩
  refine wpAnyH_done (by kernel_rfl) ?_ _
  refine NoPanic.normal ?_
  go_wp2
  refine bodyPost_ret (v := .agg (wholeC g i r)) (res_whole Try.results45 _ _ (w.heap.size + 1 + 1) _ _ _ rfl hN2 hr) rfl ⟨i, r, rfl, HR1.out, ?_⟩
  exact hB1.grown hg2 (by have := hB1.size; omega) (by intro k hk; cases hk; omega)

set_option maxHeartbeats 1000000 in
set_option maxRecDepth 100000 in
theorem negated_any {k j : Nat} {p q : List Int} (g : Bool) (w : World) (hp : p.length = 204) (hq : q.length = 204) :
    Calls Try.prog 23 #[.agg (numC g k p j q)] w fun e w' => e = .returned (.agg (numC (!g && decide (0 < k)) k p j q)) ∧ Below w.heap.size w w' := by
  have hz1 := zero_whole.1
  have hz2 := zero_num.1
  have A : NumAt ((w.alloc (.cells (numC g k p j q) 34)).alloc (.cells (numC false 0 zP 0 zP) 34)) w.heap.size g k p j q := RowAt.old (NumAt.new w g k p j q) _
  have C : NumAt ((w.alloc (.cells (numC g k p j q) 34)).alloc (.cells (numC false 0 zP 0 zP) 34)) (w.heap.size + 1) false 0 zP 0 zP := by
    have := NumAt.new (w.alloc (.cells (numC g k p j q) 34)) false 0 zP 0 zP
    simp only [World.size_alloc] at this; exact this
  have hB : Below w.heap.size w ((w.alloc (.cells (numC g k p j q) 34)).alloc (.cells (numC false 0 zP 0 zP) 34)) := ((Below.refl _ _).alloc (Nat.le_refl _) _).alloc (by simp) _
  obtain ⟨W, hWd⟩ : ∃ W, W = ((w.alloc (.cells (numC g k p j q) 34)).alloc (.cells (numC false 0 zP 0 zP) 34)) := ⟨_, rfl⟩
  have hWs : W.heap.size = w.heap.size + 1 + 1 := by rw [hWd]; simp
  go_enter Try.func23, Try.ntmps23
  go_wp2_with fail
  rw [← hWd] at A C hB ⊢
  clear hWd
  refine held_begin (fun w' => NumAt w' w.heap.size g k p j q) (by kernel_rfl) ?_
  have hS : NumAt W.drew w.heap.size g k p j q := A
  refine held_valS 0 (some 3) rfl rfl (by kernel_rfl) (by kernel_rfl) (by kernel_rfl) noPanic_put rfl (.pointer (some ⟨w.heap.size, 0, none⟩)) (fun _ _ => by go_simp) hS ?_
  simp only [Act.put, List.setIfInBounds_toArray, List.set_cons_zero, List.set_cons_succ]
  refine held_valS 1 (some 4) rfl rfl (by kernel_rfl) (by kernel_rfl) (by kernel_rfl) noPanic_put rfl (.pointer (some ⟨w.heap.size, 0, none⟩)) (fun _ _ => by go_simp) hS ?_
  simp only [Act.put, List.setIfInBounds_toArray, List.set_cons_zero, List.set_cons_succ]
  refine held_valS 2 (some 5) rfl rfl (by kernel_rfl) (by kernel_rfl) (by kernel_rfl) noPanic_put rfl (.bool g) (fun _ h => by have c := h.neg; go_simp) hS ?_
  simp only [Act.put, List.setIfInBounds_toArray, List.set_cons_zero, List.set_cons_succ]
  refine held_valS 3 (some 6) rfl rfl (by kernel_rfl) (by kernel_rfl) (by kernel_rfl) noPanic_put rfl (.bool (!g)) (fun _ _ => by go_simp) hS ?_
  simp only [Act.put, List.setIfInBounds_toArray, List.set_cons_zero, List.set_cons_succ]
  refine held_valS 4 (some 7) rfl rfl (by kernel_rfl) (by kernel_rfl) (by kernel_rfl) noPanic_put rfl (.pointer (some ⟨w.heap.size, 0, none⟩)) (fun _ _ => by go_simp) hS ?_
  simp only [Act.put, List.setIfInBounds_toArray, List.set_cons_zero, List.set_cons_succ]
  refine held_valS 5 (some 8) rfl rfl (by kernel_rfl) (by kernel_rfl) (by kernel_rfl) noPanic_put rfl (.pointer (some ⟨w.heap.size, 1, none⟩)) (fun _ _ => by go_simp) hS ?_
  simp only [Act.put, List.setIfInBounds_toArray, List.set_cons_zero, List.set_cons_succ]
  refine held_valS 6 (some 9) rfl rfl (by kernel_rfl) (by kernel_rfl) (by kernel_rfl) noPanic_put rfl (.agg (natC k p)) (fun _ h => run_mid_nat _ rfl w.heap.size 1 rfl k p h.size hp) hS ?_
  simp only [Act.put, List.setIfInBounds_toArray, List.set_cons_zero, List.set_cons_succ]
  refine held_valS 8 (some 11) rfl rfl (by kernel_rfl) (by kernel_rfl) (by kernel_rfl) noPanic_put rfl (.pointer (some ⟨w.heap.size, 206, none⟩)) (fun _ _ => by go_simp) hS ?_
  simp only [Act.put, List.setIfInBounds_toArray, List.set_cons_zero, List.set_cons_succ]
  refine held_valS 9 (some 12) rfl rfl (by kernel_rfl) (by kernel_rfl) (by kernel_rfl) noPanic_put rfl (.agg (natC j q)) (fun _ h => run_mid_nat _ rfl w.heap.size 206 rfl j q (h.bottom hp) hq) hS ?_
  simp only [Act.put, List.setIfInBounds_toArray, List.set_cons_zero, List.set_cons_succ]
  refine held_call 7 (some 10) (by kernel_rfl) rfl rfl rfl 47 #[.bool (!g), .agg (natC k p)] (by go_simp) _ (wholeOf_any (!g) k p W.drew hp) ?_
  rintro e w1 ⟨rfl, hW1⟩
  have hW1 : Below W.heap.size W w1 := ⟨hW1.os, hW1.tape, hW1.output, hW1.size, hW1.block⟩
  have hs1 := hW1.size
  have S1 : NumAt w1 w.heap.size g k p j q := RowAt.below A hW1 (by omega)
  have C1 : NumAt w1 (w.heap.size + 1) false 0 zP 0 zP := RowAt.below C hW1 (by omega)
  have hB1 : Below w.heap.size w w1 := hB.trans (hW1.mono hB.size)
  obtain ⟨G, hG⟩ : ∃ G, G = (!g && decide (0 < k)) := ⟨_, rfl⟩
  rw [← hG]
  have HG := hide hG
  clear A C hB hS hW1 hG
  refine ⟨_, rfl, S1, ?_⟩
  simp only [Act.put, List.setIfInBounds_toArray, List.set_cons_zero, List.set_cons_succ]
  refine held_valS 10 (some 13) rfl rfl (by kernel_rfl) (by kernel_rfl) (by kernel_rfl) noPanic_put rfl (.agg (numC G k p j q)) (fun _ _ => run_bn _ _ rfl G k p j q hp hq rfl rfl) S1 ?_
  simp only [Act.put, List.setIfInBounds_toArray, List.set_cons_zero, List.set_cons_succ]
  refine held_store_num 11 (by kernel_rfl) rfl rfl _ _ rfl rfl (w.heap.size + 1) G k p j q rfl rfl false 0 zP 0 zP C1 zP_len zP_len hp hq ?_
  intro w2 hN2 hg2 hs2
  refine ⟨RowAt.grown S1 hg2 (by simp), ?_⟩
  refine wpAnyH_done (by kernel_rfl) ?_ _
  refine NoPanic.normal ?_
  go_wp2
  refine bodyPost_ret (v := .agg (numC G k p j q)) (res_num Try.results23 _ _ (w.heap.size + 1) _ _ _ _ _ rfl hN2 hp hq) rfl ⟨by rw [HG.out], ?_⟩
  exact hB1.grown hg2 (by have := hB1.size; omega) (by intro k hk; cases hk; omega)

set_option maxHeartbeats 1000000 in
set_option maxRecDepth 100000 in
theorem added_true_true {n m k j : Nat} {p q : List Int} (w : World) (hP : Rep n k p) (hQ : Rep m j q) (hk : k ≤ 201) (hj : j ≤ 201) (h0 : n ≠ 0) :
    Calls Try.prog 46 #[.agg (wholeC true k p), .agg (wholeC true j q)] w fun e w' => ∃ (i : Nat) (r : List Int), e = .returned (.agg (wholeC (decide (sg true n + sg true m < 0)) i r)) ∧ Rep (sg true n + sg true m).natAbs i r ∧ Below w.heap.size w w' := by
  have hz := zero_nat.1
  have hz1 := zero_whole.1
  have hp := hP.len
  have hq := hQ.len
  have A : WholeAt (((w.alloc (.cells (wholeC true k p) 32)).alloc (.cells (wholeC true j q) 32)).alloc (.cells (wholeC false 0 zP) 32)) w.heap.size true k p := RowAt.old (RowAt.old (WholeAt.new w true k p) _) _
  have B : WholeAt (((w.alloc (.cells (wholeC true k p) 32)).alloc (.cells (wholeC true j q) 32)).alloc (.cells (wholeC false 0 zP) 32)) (w.heap.size + 1) true j q := by
    have := RowAt.old (WholeAt.new (w.alloc (.cells (wholeC true k p) 32)) true j q) (.cells (wholeC false 0 zP) 32)
    simp only [World.size_alloc] at this; exact this
  have C : WholeAt (((w.alloc (.cells (wholeC true k p) 32)).alloc (.cells (wholeC true j q) 32)).alloc (.cells (wholeC false 0 zP) 32)) (w.heap.size + 1 + 1) false 0 zP := by
    have := WholeAt.new ((w.alloc (.cells (wholeC true k p) 32)).alloc (.cells (wholeC true j q) 32)) false 0 zP
    simp only [World.size_alloc] at this; exact this
  have hB : Below w.heap.size w (((w.alloc (.cells (wholeC true k p) 32)).alloc (.cells (wholeC true j q) 32)).alloc (.cells (wholeC false 0 zP) 32)) := (((Below.refl _ _).alloc (Nat.le_refl _) _).alloc (by simp) _).alloc (by simp; omega) _
  obtain ⟨W, hWd⟩ : ∃ W, W = (((w.alloc (.cells (wholeC true k p) 32)).alloc (.cells (wholeC true j q) 32)).alloc (.cells (wholeC false 0 zP) 32)) := ⟨_, rfl⟩
  have hWs : W.heap.size = w.heap.size + 1 + 1 + 1 := by rw [hWd]; simp
  have HP := hide (And.intro hP hQ)
  clear hP hQ
  have a0 := A.neg
  have b0 := B.neg
  have HS : Hid (decide (sg true n + sg true m < 0) = true ∧ (sg true n + sg true m).natAbs = n + m) := ⟨decide_eq_true (by simp [sg]; omega), by simp [sg]; omega⟩
  clear h0
  go_enter Try.func46, Try.ntmps46
  go_wp2_with fail
  rw [← hWd] at A B C hB ⊢
  clear hWd a0 b0
  refine held_begin (fun w' => WholeAt w' w.heap.size true k p ∧ WholeAt w' (w.heap.size + 1) true j q) (by kernel_rfl) ?_
  have hS : WholeAt W.drew w.heap.size true k p ∧ WholeAt W.drew (w.heap.size + 1) true j q := ⟨A, B⟩
  refine held_valS 0 (some 12) rfl rfl (by kernel_rfl) (by kernel_rfl) (by kernel_rfl) noPanic_put rfl (.pointer (some ⟨w.heap.size, 0, none⟩)) (fun _ _ => by go_simp) hS ?_
  simp only [Act.put, List.setIfInBounds_toArray, List.set_cons_zero, List.set_cons_succ]
  refine held_valS 1 (some 13) rfl rfl (by kernel_rfl) (by kernel_rfl) (by kernel_rfl) noPanic_put rfl (.bool true) (fun _ h => by have c := h.1.neg; go_simp) hS ?_
  simp only [Act.put, List.setIfInBounds_toArray, List.set_cons_zero, List.set_cons_succ]
  refine held_valS 2 (some 14) rfl rfl (by kernel_rfl) (by kernel_rfl) (by kernel_rfl) noPanic_put rfl (.pointer (some ⟨w.heap.size, 1, none⟩)) (fun _ _ => by go_simp) hS ?_
  simp only [Act.put, List.setIfInBounds_toArray, List.set_cons_zero, List.set_cons_succ]
  refine held_valS 3 (some 15) rfl rfl (by kernel_rfl) (by kernel_rfl) (by kernel_rfl) noPanic_put rfl (.agg (natC k p)) (fun _ h => run_mid_nat _ rfl w.heap.size 1 rfl k p h.1.size hp) hS ?_
  simp only [Act.put, List.setIfInBounds_toArray, List.set_cons_zero, List.set_cons_succ]
  refine held_valS 4 (some 16) rfl rfl (by kernel_rfl) (by kernel_rfl) (by kernel_rfl) noPanic_put rfl (.pointer (some ⟨w.heap.size + 1, 1, none⟩)) (fun _ _ => by go_simp) hS ?_
  simp only [Act.put, List.setIfInBounds_toArray, List.set_cons_zero, List.set_cons_succ]
  refine held_valS 5 (some 17) rfl rfl (by kernel_rfl) (by kernel_rfl) (by kernel_rfl) noPanic_put rfl (.agg (natC j q)) (fun _ h => run_mid_nat _ rfl (w.heap.size + 1) 1 rfl j q h.2.size hq) hS ?_
  simp only [Act.put, List.setIfInBounds_toArray, List.set_cons_zero, List.set_cons_succ]
  refine held_call 6 (some 18) (by kernel_rfl) rfl rfl rfl 60 #[.agg (natC k p), .agg (natC j q)] (by go_simp) _ (plus_wide W.drew HP.out.1 HP.out.2 (by omega) (by omega)) ?_
  rintro e w1 ⟨i, r, rfl, hR1, hW1⟩
  have hW1 : Below W.heap.size W w1 := ⟨hW1.os, hW1.tape, hW1.output, hW1.size, hW1.block⟩
  have hs1 := hW1.size
  have hr := hR1.len
  have HR1 := hide hR1
  have S1 : WholeAt w1 w.heap.size true k p ∧ WholeAt w1 (w.heap.size + 1) true j q := ⟨RowAt.below A hW1 (by omega), RowAt.below B hW1 (by omega)⟩
  have C1 : WholeAt w1 (w.heap.size + 1 + 1) false 0 zP := RowAt.below C hW1 (by omega)
  have hB1 : Below w.heap.size w w1 := hB.trans (hW1.mono hB.size)
  clear A B C hB hS hR1 hW1
  refine ⟨_, rfl, S1, ?_⟩
  simp only [Act.put, List.setIfInBounds_toArray, List.set_cons_zero, List.set_cons_succ]
  refine held_valS 7 (some 19) rfl rfl (by kernel_rfl) (by kernel_rfl) (by kernel_rfl) noPanic_put rfl (.agg (wholeC true i r)) (fun _ _ => run_bw _ _ rfl true i r hr rfl rfl) S1 ?_
  simp only [Act.put, List.setIfInBounds_toArray, List.set_cons_zero, List.set_cons_succ]
  refine held_store_whole 8 (by kernel_rfl) rfl rfl _ _ rfl rfl (w.heap.size + 1 + 1) true i r rfl rfl false 0 zP C1 zP_len hr ?_
  intro w2 hN2 hg2 hs2
  refine ⟨⟨RowAt.grown S1.1 hg2 (by simp; omega), RowAt.grown S1.2 hg2 (by simp)⟩, ?_⟩
  refine wpAnyH_done (by kernel_rfl) ?_ _
  refine NoPanic.normal ?_
  go_wp2
  refine bodyPost_ret (v := .agg (wholeC true i r)) (res_whole Try.results46 _ _ (w.heap.size + 1 + 1) _ _ _ rfl hN2 hr) rfl ⟨i, r, by rw [HS.out.1], by rw [HS.out.2]; exact HR1.out, ?_⟩
  exact hB1.grown hg2 (by have := hB1.size; omega) (by intro k hk; cases hk; omega)

set_option maxHeartbeats 1000000 in
set_option maxRecDepth 100000 in
theorem added_false_false {n m k j : Nat} {p q : List Int} (w : World) (hP : Rep n k p) (hQ : Rep m j q) (hk : k ≤ 201) (hj : j ≤ 201) :
    Calls Try.prog 46 #[.agg (wholeC false k p), .agg (wholeC false j q)] w fun e w' => ∃ (i : Nat) (r : List Int), e = .returned (.agg (wholeC (decide (sg false n + sg false m < 0)) i r)) ∧ Rep (sg false n + sg false m).natAbs i r ∧ Below w.heap.size w w' := by
  have hz := zero_nat.1
  have hz1 := zero_whole.1
  have hp := hP.len
  have hq := hQ.len
  have A : WholeAt (((w.alloc (.cells (wholeC false k p) 32)).alloc (.cells (wholeC false j q) 32)).alloc (.cells (wholeC false 0 zP) 32)) w.heap.size false k p := RowAt.old (RowAt.old (WholeAt.new w false k p) _) _
  have B : WholeAt (((w.alloc (.cells (wholeC false k p) 32)).alloc (.cells (wholeC false j q) 32)).alloc (.cells (wholeC false 0 zP) 32)) (w.heap.size + 1) false j q := by
    have := RowAt.old (WholeAt.new (w.alloc (.cells (wholeC false k p) 32)) false j q) (.cells (wholeC false 0 zP) 32)
    simp only [World.size_alloc] at this; exact this
  have C : WholeAt (((w.alloc (.cells (wholeC false k p) 32)).alloc (.cells (wholeC false j q) 32)).alloc (.cells (wholeC false 0 zP) 32)) (w.heap.size + 1 + 1) false 0 zP := by
    have := WholeAt.new ((w.alloc (.cells (wholeC false k p) 32)).alloc (.cells (wholeC false j q) 32)) false 0 zP
    simp only [World.size_alloc] at this; exact this
  have hB : Below w.heap.size w (((w.alloc (.cells (wholeC false k p) 32)).alloc (.cells (wholeC false j q) 32)).alloc (.cells (wholeC false 0 zP) 32)) := (((Below.refl _ _).alloc (Nat.le_refl _) _).alloc (by simp) _).alloc (by simp; omega) _
  obtain ⟨W, hWd⟩ : ∃ W, W = (((w.alloc (.cells (wholeC false k p) 32)).alloc (.cells (wholeC false j q) 32)).alloc (.cells (wholeC false 0 zP) 32)) := ⟨_, rfl⟩
  have hWs : W.heap.size = w.heap.size + 1 + 1 + 1 := by rw [hWd]; simp
  have HP := hide (And.intro hP hQ)
  clear hP hQ
  have a0 := A.neg
  have b0 := B.neg
  have HS : Hid (decide (sg false n + sg false m < 0) = false ∧ (sg false n + sg false m).natAbs = n + m) := ⟨decide_eq_false (by simp [sg]; omega), by simp [sg]; omega⟩
  go_enter Try.func46, Try.ntmps46
  go_wp2_with fail
  rw [← hWd] at A B C hB ⊢
  clear hWd a0 b0
  refine held_begin (fun w' => WholeAt w' w.heap.size false k p ∧ WholeAt w' (w.heap.size + 1) false j q) (by kernel_rfl) ?_
  have hS : WholeAt W.drew w.heap.size false k p ∧ WholeAt W.drew (w.heap.size + 1) false j q := ⟨A, B⟩
  refine held_valS 0 (some 12) rfl rfl (by kernel_rfl) (by kernel_rfl) (by kernel_rfl) noPanic_put rfl (.pointer (some ⟨w.heap.size, 0, none⟩)) (fun _ _ => by go_simp) hS ?_
  simp only [Act.put, List.setIfInBounds_toArray, List.set_cons_zero, List.set_cons_succ]
  refine held_valS 1 (some 13) rfl rfl (by kernel_rfl) (by kernel_rfl) (by kernel_rfl) noPanic_put rfl (.bool false) (fun _ h => by have c := h.1.neg; go_simp) hS ?_
  simp only [Act.put, List.setIfInBounds_toArray, List.set_cons_zero, List.set_cons_succ]
  refine held_valS 2 (some 14) rfl rfl (by kernel_rfl) (by kernel_rfl) (by kernel_rfl) noPanic_put rfl (.pointer (some ⟨w.heap.size, 1, none⟩)) (fun _ _ => by go_simp) hS ?_
  simp only [Act.put, List.setIfInBounds_toArray, List.set_cons_zero, List.set_cons_succ]
  refine held_valS 3 (some 15) rfl rfl (by kernel_rfl) (by kernel_rfl) (by kernel_rfl) noPanic_put rfl (.agg (natC k p)) (fun _ h => run_mid_nat _ rfl w.heap.size 1 rfl k p h.1.size hp) hS ?_
  simp only [Act.put, List.setIfInBounds_toArray, List.set_cons_zero, List.set_cons_succ]
  refine held_valS 4 (some 16) rfl rfl (by kernel_rfl) (by kernel_rfl) (by kernel_rfl) noPanic_put rfl (.pointer (some ⟨w.heap.size + 1, 1, none⟩)) (fun _ _ => by go_simp) hS ?_
  simp only [Act.put, List.setIfInBounds_toArray, List.set_cons_zero, List.set_cons_succ]
  refine held_valS 5 (some 17) rfl rfl (by kernel_rfl) (by kernel_rfl) (by kernel_rfl) noPanic_put rfl (.agg (natC j q)) (fun _ h => run_mid_nat _ rfl (w.heap.size + 1) 1 rfl j q h.2.size hq) hS ?_
  simp only [Act.put, List.setIfInBounds_toArray, List.set_cons_zero, List.set_cons_succ]
  refine held_call 6 (some 18) (by kernel_rfl) rfl rfl rfl 60 #[.agg (natC k p), .agg (natC j q)] (by go_simp) _ (plus_wide W.drew HP.out.1 HP.out.2 (by omega) (by omega)) ?_
  rintro e w1 ⟨i, r, rfl, hR1, hW1⟩
  have hW1 : Below W.heap.size W w1 := ⟨hW1.os, hW1.tape, hW1.output, hW1.size, hW1.block⟩
  have hs1 := hW1.size
  have hr := hR1.len
  have HR1 := hide hR1
  have S1 : WholeAt w1 w.heap.size false k p ∧ WholeAt w1 (w.heap.size + 1) false j q := ⟨RowAt.below A hW1 (by omega), RowAt.below B hW1 (by omega)⟩
  have C1 : WholeAt w1 (w.heap.size + 1 + 1) false 0 zP := RowAt.below C hW1 (by omega)
  have hB1 : Below w.heap.size w w1 := hB.trans (hW1.mono hB.size)
  clear A B C hB hS hR1 hW1
  refine ⟨_, rfl, S1, ?_⟩
  simp only [Act.put, List.setIfInBounds_toArray, List.set_cons_zero, List.set_cons_succ]
  refine held_valS 7 (some 19) rfl rfl (by kernel_rfl) (by kernel_rfl) (by kernel_rfl) noPanic_put rfl (.agg (wholeC false i r)) (fun _ _ => run_bw _ _ rfl false i r hr rfl rfl) S1 ?_
  simp only [Act.put, List.setIfInBounds_toArray, List.set_cons_zero, List.set_cons_succ]
  refine held_store_whole 8 (by kernel_rfl) rfl rfl _ _ rfl rfl (w.heap.size + 1 + 1) false i r rfl rfl false 0 zP C1 zP_len hr ?_
  intro w2 hN2 hg2 hs2
  refine ⟨⟨RowAt.grown S1.1 hg2 (by simp; omega), RowAt.grown S1.2 hg2 (by simp)⟩, ?_⟩
  refine wpAnyH_done (by kernel_rfl) ?_ _
  refine NoPanic.normal ?_
  go_wp2
  refine bodyPost_ret (v := .agg (wholeC false i r)) (res_whole Try.results46 _ _ (w.heap.size + 1 + 1) _ _ _ rfl hN2 hr) rfl ⟨i, r, by rw [HS.out.1], by rw [HS.out.2]; exact HR1.out, ?_⟩
  exact hB1.grown hg2 (by have := hB1.size; omega) (by intro k hk; cases hk; omega)

set_option maxHeartbeats 1000000 in
set_option maxRecDepth 100000 in
theorem added_true_false {n m k j : Nat} {p q : List Int} (w : World) (hP : Rep n k p) (hQ : Rep m j q) (hk : k ≤ 201) (hj : j ≤ 201) :
    Calls Try.prog 46 #[.agg (wholeC true k p), .agg (wholeC false j q)] w fun e w' => ∃ (i : Nat) (r : List Int), e = .returned (.agg (wholeC (decide (sg true n + sg false m < 0)) i r)) ∧ Rep (sg true n + sg false m).natAbs i r ∧ Below w.heap.size w w' := by
  have hz := zero_nat.1
  have hz1 := zero_whole.1
  have hp := hP.len
  have hq := hQ.len
  have A : WholeAt (((w.alloc (.cells (wholeC true k p) 32)).alloc (.cells (wholeC false j q) 32)).alloc (.cells (wholeC false 0 zP) 32)) w.heap.size true k p := RowAt.old (RowAt.old (WholeAt.new w true k p) _) _
  have B : WholeAt (((w.alloc (.cells (wholeC true k p) 32)).alloc (.cells (wholeC false j q) 32)).alloc (.cells (wholeC false 0 zP) 32)) (w.heap.size + 1) false j q := by
    have := RowAt.old (WholeAt.new (w.alloc (.cells (wholeC true k p) 32)) false j q) (.cells (wholeC false 0 zP) 32)
    simp only [World.size_alloc] at this; exact this
  have C : WholeAt (((w.alloc (.cells (wholeC true k p) 32)).alloc (.cells (wholeC false j q) 32)).alloc (.cells (wholeC false 0 zP) 32)) (w.heap.size + 1 + 1) false 0 zP := by
    have := WholeAt.new ((w.alloc (.cells (wholeC true k p) 32)).alloc (.cells (wholeC false j q) 32)) false 0 zP
    simp only [World.size_alloc] at this; exact this
  have hB : Below w.heap.size w (((w.alloc (.cells (wholeC true k p) 32)).alloc (.cells (wholeC false j q) 32)).alloc (.cells (wholeC false 0 zP) 32)) := (((Below.refl _ _).alloc (Nat.le_refl _) _).alloc (by simp) _).alloc (by simp; omega) _
  obtain ⟨W, hWd⟩ : ∃ W, W = (((w.alloc (.cells (wholeC true k p) 32)).alloc (.cells (wholeC false j q) 32)).alloc (.cells (wholeC false 0 zP) 32)) := ⟨_, rfl⟩
  have hWs : W.heap.size = w.heap.size + 1 + 1 + 1 := by rw [hWd]; simp
  have HP := hide (And.intro hP hQ)
  clear hP hQ
  have a0 := A.neg
  have b0 := B.neg
  go_enter Try.func46, Try.ntmps46
  go_wp2_with (first | (refine load_mid_nat rfl _ rfl w.heap.size 1 rfl k p A.size hp ?_) | (refine load_mid_nat rfl _ rfl (w.heap.size + 1) 1 rfl j q B.size hq ?_))
  rw [← hWd] at A B C hB ⊢
  clear hWd a0 b0
  refine (minus_any 1 0 W HP.out.1 HP.out.2 (by omega) (by omega) (by omega) (by omega)).mono ?_
  rintro e w1 (⟨i, r, x, rfl, hR1, hx, hW1⟩ | ⟨rfl, hx, hW1⟩)
  · have hs1 := hW1.size
    have hr := hR1.len
    have HR1 := hide hR1
    have hx' : (x : Int) = (n : Int) - (m : Int) := by simpa using hx
    have HX : Hid ((true && decide (0 < i)) = decide (sg true n + sg false m < 0) ∧ (sg true n + sg false m).natAbs = x) := by
      have hz := hR1.zero_iff
      have h1 : (sg true n + sg false m) = sg true x := by simp only [sg, if_true, Bool.false_eq_true, if_false]; omega
      rw [h1, sg_abs]
      refine ⟨?_, rfl⟩
      by_cases e : i = 0
      · have := hz.1 e; subst this; subst e; simp [sg]
      · have e2 : x ≠ 0 := fun e' => e (hz.2 e')
        simp only [sg, if_true, decide_eq_true (show 0 < i by omega)]
        first | (rw [decide_eq_true (show -(x : Int) < 0 by omega)]; rfl) | (rw [decide_eq_false (show ¬ (x : Int) < 0 by omega)]; rfl)
    have A1 : WholeAt w1 w.heap.size true k p := RowAt.below A hW1 (by omega)
    have C1 : WholeAt w1 (w.heap.size + 1 + 1) false 0 zP := RowAt.below C hW1 (by omega)
    have hB1 : Below w.heap.size w w1 := hB.trans (hW1.mono hB.size)
    have F1 := NatAt.new w1 0 zP
    clear A B C hB hR1 hW1 hx hx'
    go_wp2_with (first | (refine store_nat rfl _ _ rfl rfl w1.heap.size i r rfl rfl 0 zP F1 zP_len hr ?_; intro w2 hN2 hg2 hs2; have A2 : WholeAt w2 w.heap.size true k p := RowAt.grown (RowAt.old A1 (.cells (natC 0 zP) 30)) hg2 (by simp; omega); have a2 := A2.neg) | (refine load_nat rfl _ rfl w1.heap.size rfl i r hN2 hr ?_))
    have C2 : WholeAt w2 (w.heap.size + 1 + 1) false 0 zP := RowAt.grown (RowAt.old C1 (.cells (natC 0 zP) 30)) hg2 (by simp; omega)
    have hB2 : Below w.heap.size w w2 := (hB1.alloc (by have := hB1.size; omega) _).grown hg2 (by have := hB1.size; simp; omega) (by intro k hk; cases hk; omega)
    have hs2' : w2.heap.size = w1.heap.size + 1 := by rw [hs2]; simp
    refine (wholeOf_any true i r w2 hr).mono ?_
    rintro e w3 ⟨rfl, hW3⟩
    have C3 : WholeAt w3 (w.heap.size + 1 + 1) false 0 zP := RowAt.below C2 hW3 (by omega)
    have hB3 : Below w.heap.size w w3 := hB2.trans (hW3.mono hB2.size)
    obtain ⟨G, hG⟩ : ∃ G, G = (true && decide (0 < i)) := ⟨_, rfl⟩
    rw [← hG]
    have HG := hide hG
    clear hG A1 C1 F1 hN2 hg2 hs2 A2 a2 C2 hB1 hB2 hW3
    go_wp2_with (refine store_whole rfl _ _ rfl rfl (w.heap.size + 1 + 1) G i r rfl rfl false 0 zP C3 zP_len hr ?_; intro w4 hN4 hg4 hs4)
    refine bodyPost_ret (v := .agg (wholeC G i r)) (res_whole Try.results46 _ _ (w.heap.size + 1 + 1) _ _ _ rfl hN4 hr) rfl ⟨i, r, by rw [HG.out, HX.out.1], by rw [HX.out.2]; exact HR1.out, ?_⟩
    exact hB3.grown hg4 (by have := hB3.size; omega) (by intro k hk; cases hk; omega)
  · have hs1 := hW1.size
    have hx' : (n : Int) < (m : Int) := by simpa using hx
    have A1 : WholeAt w1 w.heap.size true k p := RowAt.below A hW1 (by omega)
    have B1 : WholeAt w1 (w.heap.size + 1) false j q := RowAt.below B hW1 (by omega)
    have C1 : WholeAt w1 (w.heap.size + 1 + 1) false 0 zP := RowAt.below C hW1 (by omega)
    have hB1 : Below w.heap.size w w1 := hB.trans (hW1.mono hB.size)
    have F1 := NatAt.new w1 0 zP
    have HX := hide hx'
    clear A B C hB hW1 hx hx'
    go_wp2_with (first | (refine store_nat rfl _ _ rfl rfl w1.heap.size 0 zP rfl rfl 0 zP F1 zP_len zP_len ?_; intro w2 hN2 hg2 hs2; have A2 : WholeAt w2 w.heap.size true k p := RowAt.grown (RowAt.old A1 (.cells (natC 0 zP) 30)) hg2 (by simp; omega); have B2 : WholeAt w2 (w.heap.size + 1) false j q := RowAt.grown (RowAt.old B1 (.cells (natC 0 zP) 30)) hg2 (by simp; omega)) | (refine load_mid_nat rfl _ rfl (w.heap.size + 1) 1 rfl j q B2.size hq ?_) | (refine load_mid_nat rfl _ rfl w.heap.size 1 rfl k p A2.size hp ?_))
    have C2 : WholeAt w2 (w.heap.size + 1 + 1) false 0 zP := RowAt.grown (RowAt.old C1 (.cells (natC 0 zP) 30)) hg2 (by simp; omega)
    have hB2 : Below w.heap.size w w2 := (hB1.alloc (by have := hB1.size; omega) _).grown hg2 (by have := hB1.size; simp; omega) (by intro k hk; cases hk; omega)
    have hs2' : w2.heap.size = w1.heap.size + 1 := by rw [hs2]; simp
    refine (minus_any 1 0 w2 HP.out.2 HP.out.1 (by omega) (by omega) (by omega) (by omega)).mono ?_
    rintro e w3 (⟨i, r, x, rfl, hR3, hx, hW3⟩ | ⟨rfl, hx, hW3⟩)
    · have hr := hR3.len
      have HR3 := hide hR3
      have hx' : (x : Int) = (m : Int) - (n : Int) := by simpa using hx
      have HY : Hid (decide (sg true n + sg false m < 0) = false ∧ (sg true n + sg false m).natAbs = x) := by
        have := HX.out
        have h1 : (sg true n + sg false m) = sg false x := by simp only [sg, if_true, Bool.false_eq_true, if_false]; omega
        rw [h1, sg_abs]
        refine ⟨?_, rfl⟩
        simp only [sg, Bool.false_eq_true, if_false]
        first | exact decide_eq_true (by omega) | exact decide_eq_false (by omega)
      have N3 : NatAt w3 w1.heap.size 0 zP := hN2.below hW3 (by omega)
      have B3 : WholeAt w3 (w.heap.size + 1) false j q := RowAt.below B2 hW3 (by omega)
      have C3 : WholeAt w3 (w.heap.size + 1 + 1) false 0 zP := RowAt.below C2 hW3 (by omega)
      have hs3 := hW3.size
      have hB3 : Below w.heap.size w w3 := hB2.trans (hW3.mono hB2.size)
      clear A1 B1 C1 F1 hN2 hg2 hs2 A2 B2 C2 hB1 hB2 hR3 hW3 hx hx'
      go_wp2_with (first | (refine store_nat rfl _ _ rfl rfl w1.heap.size i r rfl rfl 0 zP N3 zP_len hr ?_; intro w4 hN4 hg4 hs4; have B4 : WholeAt w4 (w.heap.size + 1) false j q := RowAt.grown B3 hg4 (by simp; omega); have b4 := B4.neg) | (refine load_nat rfl _ rfl w1.heap.size rfl i r hN4 hr ?_) | (refine build_whole rfl _ _ rfl _ rfl false i r hr rfl rfl ?_) | (refine store_whole rfl _ _ rfl rfl (w.heap.size + 1 + 1) false i r rfl rfl false 0 zP (RowAt.grown C3 hg4 (by simp; omega)) zP_len hr ?_; intro w5 hN5 hg5 hs5))
      refine bodyPost_ret (v := .agg (wholeC false i r)) (res_whole Try.results46 _ _ (w.heap.size + 1 + 1) _ _ _ rfl hN5 hr) rfl ⟨i, r, by rw [HY.out.1], by rw [HY.out.2]; exact HR3.out, ?_⟩
      exact (hB3.grown hg4 (by have := hB3.size; omega) (by intro k hk; cases hk; omega)).grown hg5 (by have := hB3.size; omega) (by intro k hk; cases hk; omega)
    · exfalso
      have := HX.out
      have hx' : (m : Int) < (n : Int) := by simpa using hx
      omega

set_option maxHeartbeats 1000000 in
set_option maxRecDepth 100000 in
theorem added_false_true {n m k j : Nat} {p q : List Int} (w : World) (hP : Rep n k p) (hQ : Rep m j q) (hk : k ≤ 201) (hj : j ≤ 201) :
    Calls Try.prog 46 #[.agg (wholeC false k p), .agg (wholeC true j q)] w fun e w' => ∃ (i : Nat) (r : List Int), e = .returned (.agg (wholeC (decide (sg false n + sg true m < 0)) i r)) ∧ Rep (sg false n + sg true m).natAbs i r ∧ Below w.heap.size w w' := by
  have hz := zero_nat.1
  have hz1 := zero_whole.1
  have hp := hP.len
  have hq := hQ.len
  have A : WholeAt (((w.alloc (.cells (wholeC false k p) 32)).alloc (.cells (wholeC true j q) 32)).alloc (.cells (wholeC false 0 zP) 32)) w.heap.size false k p := RowAt.old (RowAt.old (WholeAt.new w false k p) _) _
  have B : WholeAt (((w.alloc (.cells (wholeC false k p) 32)).alloc (.cells (wholeC true j q) 32)).alloc (.cells (wholeC false 0 zP) 32)) (w.heap.size + 1) true j q := by
    have := RowAt.old (WholeAt.new (w.alloc (.cells (wholeC false k p) 32)) true j q) (.cells (wholeC false 0 zP) 32)
    simp only [World.size_alloc] at this; exact this
  have C : WholeAt (((w.alloc (.cells (wholeC false k p) 32)).alloc (.cells (wholeC true j q) 32)).alloc (.cells (wholeC false 0 zP) 32)) (w.heap.size + 1 + 1) false 0 zP := by
    have := WholeAt.new ((w.alloc (.cells (wholeC false k p) 32)).alloc (.cells (wholeC true j q) 32)) false 0 zP
    simp only [World.size_alloc] at this; exact this
  have hB : Below w.heap.size w (((w.alloc (.cells (wholeC false k p) 32)).alloc (.cells (wholeC true j q) 32)).alloc (.cells (wholeC false 0 zP) 32)) := (((Below.refl _ _).alloc (Nat.le_refl _) _).alloc (by simp) _).alloc (by simp; omega) _
  obtain ⟨W, hWd⟩ : ∃ W, W = (((w.alloc (.cells (wholeC false k p) 32)).alloc (.cells (wholeC true j q) 32)).alloc (.cells (wholeC false 0 zP) 32)) := ⟨_, rfl⟩
  have hWs : W.heap.size = w.heap.size + 1 + 1 + 1 := by rw [hWd]; simp
  have HP := hide (And.intro hP hQ)
  clear hP hQ
  have a0 := A.neg
  have b0 := B.neg
  go_enter Try.func46, Try.ntmps46
  go_wp2_with (first | (refine load_mid_nat rfl _ rfl w.heap.size 1 rfl k p A.size hp ?_) | (refine load_mid_nat rfl _ rfl (w.heap.size + 1) 1 rfl j q B.size hq ?_))
  rw [← hWd] at A B C hB ⊢
  clear hWd a0 b0
  refine (minus_any 1 0 W HP.out.1 HP.out.2 (by omega) (by omega) (by omega) (by omega)).mono ?_
  rintro e w1 (⟨i, r, x, rfl, hR1, hx, hW1⟩ | ⟨rfl, hx, hW1⟩)
  · have hs1 := hW1.size
    have hr := hR1.len
    have HR1 := hide hR1
    have hx' : (x : Int) = (n : Int) - (m : Int) := by simpa using hx
    have HX : Hid ((false && decide (0 < i)) = decide (sg false n + sg true m < 0) ∧ (sg false n + sg true m).natAbs = x) := by
      have hz := hR1.zero_iff
      have h1 : (sg false n + sg true m) = sg false x := by simp only [sg, if_true, Bool.false_eq_true, if_false]; omega
      rw [h1, sg_abs]
      refine ⟨?_, rfl⟩
      by_cases e : i = 0
      · have := hz.1 e; subst this; subst e; simp [sg]
      · have e2 : x ≠ 0 := fun e' => e (hz.2 e')
        simp only [sg, Bool.false_eq_true, if_false, decide_eq_true (show 0 < i by omega)]
        first | (rw [decide_eq_true (show -(x : Int) < 0 by omega)]; rfl) | (rw [decide_eq_false (show ¬ (x : Int) < 0 by omega)]; rfl)
    have A1 : WholeAt w1 w.heap.size false k p := RowAt.below A hW1 (by omega)
    have C1 : WholeAt w1 (w.heap.size + 1 + 1) false 0 zP := RowAt.below C hW1 (by omega)
    have hB1 : Below w.heap.size w w1 := hB.trans (hW1.mono hB.size)
    have F1 := NatAt.new w1 0 zP
    clear A B C hB hR1 hW1 hx hx'
    go_wp2_with (first | (refine store_nat rfl _ _ rfl rfl w1.heap.size i r rfl rfl 0 zP F1 zP_len hr ?_; intro w2 hN2 hg2 hs2; have A2 : WholeAt w2 w.heap.size false k p := RowAt.grown (RowAt.old A1 (.cells (natC 0 zP) 30)) hg2 (by simp; omega); have a2 := A2.neg) | (refine load_nat rfl _ rfl w1.heap.size rfl i r hN2 hr ?_))
    have C2 : WholeAt w2 (w.heap.size + 1 + 1) false 0 zP := RowAt.grown (RowAt.old C1 (.cells (natC 0 zP) 30)) hg2 (by simp; omega)
    have hB2 : Below w.heap.size w w2 := (hB1.alloc (by have := hB1.size; omega) _).grown hg2 (by have := hB1.size; simp; omega) (by intro k hk; cases hk; omega)
    have hs2' : w2.heap.size = w1.heap.size + 1 := by rw [hs2]; simp
    refine (wholeOf_any false i r w2 hr).mono ?_
    rintro e w3 ⟨rfl, hW3⟩
    have C3 : WholeAt w3 (w.heap.size + 1 + 1) false 0 zP := RowAt.below C2 hW3 (by omega)
    have hB3 : Below w.heap.size w w3 := hB2.trans (hW3.mono hB2.size)
    obtain ⟨G, hG⟩ : ∃ G, G = (false && decide (0 < i)) := ⟨_, rfl⟩
    rw [← hG]
    have HG := hide hG
    clear hG A1 C1 F1 hN2 hg2 hs2 A2 a2 C2 hB1 hB2 hW3
    go_wp2_with (refine store_whole rfl _ _ rfl rfl (w.heap.size + 1 + 1) G i r rfl rfl false 0 zP C3 zP_len hr ?_; intro w4 hN4 hg4 hs4)
    refine bodyPost_ret (v := .agg (wholeC G i r)) (res_whole Try.results46 _ _ (w.heap.size + 1 + 1) _ _ _ rfl hN4 hr) rfl ⟨i, r, by rw [HG.out, HX.out.1], by rw [HX.out.2]; exact HR1.out, ?_⟩
    exact hB3.grown hg4 (by have := hB3.size; omega) (by intro k hk; cases hk; omega)
  · have hs1 := hW1.size
    have hx' : (n : Int) < (m : Int) := by simpa using hx
    have A1 : WholeAt w1 w.heap.size false k p := RowAt.below A hW1 (by omega)
    have B1 : WholeAt w1 (w.heap.size + 1) true j q := RowAt.below B hW1 (by omega)
    have C1 : WholeAt w1 (w.heap.size + 1 + 1) false 0 zP := RowAt.below C hW1 (by omega)
    have hB1 : Below w.heap.size w w1 := hB.trans (hW1.mono hB.size)
    have F1 := NatAt.new w1 0 zP
    have HX := hide hx'
    clear A B C hB hW1 hx hx'
    go_wp2_with (first | (refine store_nat rfl _ _ rfl rfl w1.heap.size 0 zP rfl rfl 0 zP F1 zP_len zP_len ?_; intro w2 hN2 hg2 hs2; have A2 : WholeAt w2 w.heap.size false k p := RowAt.grown (RowAt.old A1 (.cells (natC 0 zP) 30)) hg2 (by simp; omega); have B2 : WholeAt w2 (w.heap.size + 1) true j q := RowAt.grown (RowAt.old B1 (.cells (natC 0 zP) 30)) hg2 (by simp; omega)) | (refine load_mid_nat rfl _ rfl (w.heap.size + 1) 1 rfl j q B2.size hq ?_) | (refine load_mid_nat rfl _ rfl w.heap.size 1 rfl k p A2.size hp ?_))
    have C2 : WholeAt w2 (w.heap.size + 1 + 1) false 0 zP := RowAt.grown (RowAt.old C1 (.cells (natC 0 zP) 30)) hg2 (by simp; omega)
    have hB2 : Below w.heap.size w w2 := (hB1.alloc (by have := hB1.size; omega) _).grown hg2 (by have := hB1.size; simp; omega) (by intro k hk; cases hk; omega)
    have hs2' : w2.heap.size = w1.heap.size + 1 := by rw [hs2]; simp
    refine (minus_any 1 0 w2 HP.out.2 HP.out.1 (by omega) (by omega) (by omega) (by omega)).mono ?_
    rintro e w3 (⟨i, r, x, rfl, hR3, hx, hW3⟩ | ⟨rfl, hx, hW3⟩)
    · have hr := hR3.len
      have HR3 := hide hR3
      have hx' : (x : Int) = (m : Int) - (n : Int) := by simpa using hx
      have HY : Hid (decide (sg false n + sg true m < 0) = true ∧ (sg false n + sg true m).natAbs = x) := by
        have := HX.out
        have h1 : (sg false n + sg true m) = sg true x := by simp only [sg, if_true, Bool.false_eq_true, if_false]; omega
        rw [h1, sg_abs]
        refine ⟨?_, rfl⟩
        simp only [sg, if_true]
        first | exact decide_eq_true (by omega) | exact decide_eq_false (by omega)
      have N3 : NatAt w3 w1.heap.size 0 zP := hN2.below hW3 (by omega)
      have B3 : WholeAt w3 (w.heap.size + 1) true j q := RowAt.below B2 hW3 (by omega)
      have C3 : WholeAt w3 (w.heap.size + 1 + 1) false 0 zP := RowAt.below C2 hW3 (by omega)
      have hs3 := hW3.size
      have hB3 : Below w.heap.size w w3 := hB2.trans (hW3.mono hB2.size)
      clear A1 B1 C1 F1 hN2 hg2 hs2 A2 B2 C2 hB1 hB2 hR3 hW3 hx hx'
      go_wp2_with (first | (refine store_nat rfl _ _ rfl rfl w1.heap.size i r rfl rfl 0 zP N3 zP_len hr ?_; intro w4 hN4 hg4 hs4; have B4 : WholeAt w4 (w.heap.size + 1) true j q := RowAt.grown B3 hg4 (by simp; omega); have b4 := B4.neg) | (refine load_nat rfl _ rfl w1.heap.size rfl i r hN4 hr ?_) | (refine build_whole rfl _ _ rfl _ rfl true i r hr rfl rfl ?_) | (refine store_whole rfl _ _ rfl rfl (w.heap.size + 1 + 1) true i r rfl rfl false 0 zP (RowAt.grown C3 hg4 (by simp; omega)) zP_len hr ?_; intro w5 hN5 hg5 hs5))
      refine bodyPost_ret (v := .agg (wholeC true i r)) (res_whole Try.results46 _ _ (w.heap.size + 1 + 1) _ _ _ rfl hN5 hr) rfl ⟨i, r, by rw [HY.out.1], by rw [HY.out.2]; exact HR3.out, ?_⟩
      exact (hB3.grown hg4 (by have := hB3.size; omega) (by intro k hk; cases hk; omega)).grown hg5 (by have := hB3.size; omega) (by intro k hk; cases hk; omega)
    · exfalso
      have := HX.out
      have hx' : (m : Int) < (n : Int) := by simpa using hx
      omega

theorem added_any {n m k j : Nat} {p q : List Int} (g g' : Bool) (w : World) (hP : Rep n k p) (hQ : Rep m j q) (hk : k ≤ 201) (hj : j ≤ 201) (h0 : g = true → n ≠ 0) :
    Calls Try.prog 46 #[.agg (wholeC g k p), .agg (wholeC g' j q)] w fun e w' => ∃ (i : Nat) (r : List Int), e = .returned (.agg (wholeC (decide (sg g n + sg g' m < 0)) i r)) ∧ Rep (sg g n + sg g' m).natAbs i r ∧ Below w.heap.size w w' := by
  cases g <;> cases g'
  · exact added_false_false w hP hQ hk hj
  · exact added_false_true w hP hQ hk hj
  · exact added_true_false w hP hQ hk hj
  · exact added_true_true w hP hQ hk hj (h0 rfl)
end Go.Proofs.Ytcdidibphaemoaa

/-
  What sumTop of impl's fractions answers: the top of a sum over the product of both bottoms; by complex numbers where both are small.
-/
namespace Go.Proofs.Ytcdidibphaemoaa
open Go.RowKit
set_option linter.unusedVariables false

theorem Rep.used_le {N i : Nat} {r : List Int} (h : Rep N i r) (K : Nat) (hN : N < 1000000 ^ K) : i ≤ K := by
  by_cases hi : i ≤ K
  · exact hi
  · have h1 := h.geN (by omega)
    have h2 : 1000000 ^ K ≤ 1000000 ^ (i - 1) := Nat.pow_le_pow_right (by decide) (by omega)
    omega
theorem topZ_used {g : Bool} {n m : Nat} {g' : Bool} {n' m' k j k' j' i : Nat} {p q p' q' r : List Int} (hP : Rep n k p) (hQ : Rep m j q) (hP' : Rep n' k' p') (hQ' : Rep m' j' q') (hk : k ≤ 100) (hj : j ≤ 100) (hk' : k' ≤ 100) (hj' : j' ≤ 100) (hR : Rep (topZ g n m g' n' m').natAbs i r) : i ≤ 201 := by
  have up : ∀ {x y : Nat} {l : List Int}, Rep x y l → y ≤ 100 → x < 1000000 ^ 100 := fun h hy => Nat.lt_of_lt_of_le h.ltN (Nat.pow_le_pow_right (by decide) hy)
  have h1 := Nat.mul_lt_mul'' (up hP hk) (up hQ' hj')
  have h2 := Nat.mul_lt_mul'' (up hP' hk') (up hQ hj)
  have h3 := topZ_abs g n m g' n' m'
  apply hR.used_le
  rw [show 201 = 100 + 100 + 1 by rfl, Nat.pow_succ, Nat.pow_add]
  generalize 1000000 ^ 100 * 1000000 ^ 100 = X at h1 h2 ⊢
  omega

theorem cmul_small {x y x' y' : Nat} {a b c d : Int} (h1 : F64 x a) (h2 : F64 y b) (h3 : F64 x' c) (h4 : F64 y' d) (ha : a.natAbs < 1000000) (hb : b.natAbs < 1000000) (hc : c.natAbs < 1000000) (hd : d.natAbs < 1000000) : ∃ re im, cMulBits x y x' y' = some (re, im) ∧ F64 im (b * c + d * a) ∧ (b * c + d * a).natAbs < 2000000000000 := by
  have key : ∀ {u v : Int}, u.natAbs < 1000000 → v.natAbs < 1000000 → (u * v).natAbs < 1000000000000 := fun {u v} hu hv => by
    rw [Int.natAbs_mul]; exact Nat.mul_lt_mul'' hu hv
  have k1 := key ha hc
  have k2 := key hb hd
  have k3 := key ha hd
  have k4 := key hb hc
  obtain ⟨ac, e1, f1⟩ := F64.mul h1 h3 (by omega)
  obtain ⟨bd, e2, f2⟩ := F64.mul h2 h4 (by omega)
  obtain ⟨re, e3, f3⟩ := F64.sub f1 f2 (by omega)
  obtain ⟨ad, e4, f4⟩ := F64.mul h1 h4 (by omega)
  obtain ⟨bc, e5, f5⟩ := F64.mul h2 h3 (by omega)
  obtain ⟨im, e6, f6⟩ := F64.add f4 f5 (by omega)
  have hz : a * d + b * c = b * c + d * a := by rw [Int.mul_comm a d]; omega
  refine ⟨re, im, ?_, by rw [← hz]; exact f6, by rw [← hz]; omega⟩
  have g1 : floatBits .mul .f64 x x' = some ac := e1
  have g2 : floatBits .mul .f64 y y' = some bd := e2
  have g3 : floatBits .sub .f64 ac bd = some re := e3
  have g4 : floatBits .mul .f64 x y' = some ad := e4
  have g5 : floatBits .mul .f64 y x' = some bc := e5
  have g6 : floatBits .add .f64 ad bc = some im := e6
  unfold cMulBits
  simp [g1, g2, g3, g4, g5, g6]

set_option maxHeartbeats 2000000 in
set_option maxRecDepth 100000 in
theorem sumTop_any {n m k j n' m' k' j' : Nat} {p q p' q' : List Int} (g g' : Bool) (w : World) (hP : Rep n k p) (hQ : Rep m j q) (hP' : Rep n' k' p') (hQ' : Rep m' j' q') (hk : k ≤ 100) (hj : j ≤ 100) (hk' : k' ≤ 100) (hj' : j' ≤ 100) (h0 : g = true → n ≠ 0) (h1 : m' ≠ 0) :
    Calls Try.prog 22 #[.agg (numC g k p j q), .agg (numC g' k' p' j' q')] w fun e w' => ∃ (i : Nat) (r : List Int), e = .returned (.agg (wholeC (decide (topZ g n m g' n' m' < 0)) i r)) ∧ Rep (topZ g n m g' n' m').natAbs i r ∧ Below w.heap.size w w' := by
  have hz1 := zero_whole.1
  have hp := hP.len
  have hq := hQ.len
  have hp' := hP'.len
  have hq' := hQ'.len
  have A : NumAt (((w.alloc (.cells (numC g k p j q) 34)).alloc (.cells (numC g' k' p' j' q') 34)).alloc (.cells (wholeC false 0 zP) 32)) w.heap.size g k p j q := RowAt.old (RowAt.old (NumAt.new w g k p j q) _) _
  have B : NumAt (((w.alloc (.cells (numC g k p j q) 34)).alloc (.cells (numC g' k' p' j' q') 34)).alloc (.cells (wholeC false 0 zP) 32)) (w.heap.size + 1) g' k' p' j' q' := by
    have := RowAt.old (NumAt.new (w.alloc (.cells (numC g k p j q) 34)) g' k' p' j' q') (.cells (wholeC false 0 zP) 32)
    simp only [World.size_alloc] at this; exact this
  have C : WholeAt (((w.alloc (.cells (numC g k p j q) 34)).alloc (.cells (numC g' k' p' j' q') 34)).alloc (.cells (wholeC false 0 zP) 32)) (w.heap.size + 1 + 1) false 0 zP := by
    have := WholeAt.new ((w.alloc (.cells (numC g k p j q) 34)).alloc (.cells (numC g' k' p' j' q') 34)) false 0 zP
    simp only [World.size_alloc] at this; exact this
  have hB : Below w.heap.size w (((w.alloc (.cells (numC g k p j q) 34)).alloc (.cells (numC g' k' p' j' q') 34)).alloc (.cells (wholeC false 0 zP) 32)) := (((Below.refl _ _).alloc (Nat.le_refl _) _).alloc (by simp) _).alloc (by simp; omega) _
  obtain ⟨W, hWd⟩ : ∃ W, W = (((w.alloc (.cells (numC g k p j q) 34)).alloc (.cells (numC g' k' p' j' q') 34)).alloc (.cells (wholeC false 0 zP) 32)) := ⟨_, rfl⟩
  have hWs : W.heap.size = w.heap.size + 1 + 1 + 1 := by rw [hWd]; simp
  have HP := hide (And.intro hP hQ)
  have HP' := hide (And.intro hP' hQ')
  have H0 := hide (And.intro h0 h1)
  clear hP hQ hP' hQ' h0 h1
  go_enter Try.func22, Try.ntmps22
  go_wp2_with (refine load_num rfl _ rfl w.heap.size rfl g k p j q A hp hq ?_)
  rw [← hWd] at A B C hB ⊢
  clear hWd
  refine (isSmall_any g W hp).mono ?_
  rintro e w1 ⟨rfl, hW1⟩
  have hs1 := hW1.size
  have A1 : NumAt w1 w.heap.size g k p j q := RowAt.below A hW1 (by omega)
  have B1 : NumAt w1 (w.heap.size + 1) g' k' p' j' q' := RowAt.below B hW1 (by omega)
  have C1 : WholeAt w1 (w.heap.size + 1 + 1) false 0 zP := RowAt.below C hW1 (by omega)
  have hB1 : Below w.heap.size w w1 := hB.trans (hW1.mono hB.size)
  clear A B C hB hW1
  by_cases hs : k ≤ 1 ∧ j ≤ 1
  · rw [decide_eq_true hs.1, decide_eq_true hs.2]
    go_wp2_with (refine load_num_w rfl _ rfl (w.heap.size + 1) rfl g' k' p' j' q' B1 hp' hq' ?_)
    refine (isSmall_any g' w1 hp').mono ?_
    rintro e w2 ⟨rfl, hW2⟩
    have hs2 := hW2.size
    have A : NumAt w2 w.heap.size g k p j q := RowAt.below A1 hW2 (by omega)
    have B : NumAt w2 (w.heap.size + 1) g' k' p' j' q' := RowAt.below B1 hW2 (by omega)
    have C : WholeAt w2 (w.heap.size + 1 + 1) false 0 zP := RowAt.below C1 hW2 (by omega)
    have hB : Below w.heap.size w w2 := hB1.trans (hW2.mono hB1.size)
    clear A1 B1 C1 hB1 hW2
    by_cases hs' : k' ≤ 1 ∧ j' ≤ 1
    · rw [decide_eq_true hs'.1, decide_eq_true hs'.2]
      go_wp2_with fail
      obtain ⟨hk1, hj1⟩ := hs
      obtain ⟨hk1', hj1'⟩ := hs'
      refine held_begin (fun w' => NumAt w' w.heap.size g k p j q ∧ NumAt w' (w.heap.size + 1) g' k' p' j' q') (by kernel_rfl) ?_
      have hS : NumAt w2.drew w.heap.size g k p j q ∧ NumAt w2.drew (w.heap.size + 1) g' k' p' j' q' := ⟨A, B⟩
      refine held_load_num 0 (some 11) rfl rfl (by kernel_rfl) (by kernel_rfl) (by kernel_rfl) noPanic_put rfl _ rfl w.heap.size rfl g k p j q (fun _ h => h.1) hp hq hS ?_
      simp only [Act.put, List.setIfInBounds_toArray, List.set_cons_zero, List.set_cons_succ]
      refine held_load_num 2 (some 13) rfl rfl (by kernel_rfl) (by kernel_rfl) (by kernel_rfl) noPanic_put rfl _ rfl (w.heap.size + 1) rfl g' k' p' j' q' (fun _ h => h.2) hp' hq' hS ?_
      simp only [Act.put, List.setIfInBounds_toArray, List.set_cons_zero, List.set_cons_succ]
      refine held_call 1 (some 12) (by kernel_rfl) rfl rfl rfl 44 #[.agg (numC g k p j q)] (by go_simp) _ (asComplex_any g w2.drew HP.out.1 HP.out.2 hk1 hj1) ?_
      rintro e w5 ⟨x, y, rfl, hx, hy, hW5⟩
      have hW5 : Below w2.heap.size w2 w5 := ⟨hW5.os, hW5.tape, hW5.output, hW5.size, hW5.block⟩
      have hs5 := hW5.size
      have S5 : NumAt w5 w.heap.size g k p j q ∧ NumAt w5 (w.heap.size + 1) g' k' p' j' q' := ⟨RowAt.below A hW5 (by omega), RowAt.below B hW5 (by omega)⟩
      have C5 : WholeAt w5 (w.heap.size + 1 + 1) false 0 zP := RowAt.below C hW5 (by omega)
      have hB5 : Below w.heap.size w w5 := hB.trans (hW5.mono hB.size)
      clear A B C hB hS hW5
      refine ⟨_, rfl, S5, ?_⟩
      simp only [Act.put, List.setIfInBounds_toArray, List.set_cons_zero, List.set_cons_succ]
      refine held_call 3 (some 14) (by kernel_rfl) rfl rfl rfl 44 #[.agg (numC g' k' p' j' q')] (by go_simp) _ (asComplex_any g' w5 HP'.out.1 HP'.out.2 hk1' hj1') ?_
      rintro e w6 ⟨x', y', rfl, hx', hy', hW6⟩
      have hs6 := hW6.size
      have S6 : NumAt w6 w.heap.size g k p j q ∧ NumAt w6 (w.heap.size + 1) g' k' p' j' q' := ⟨RowAt.below S5.1 hW6 (by omega), RowAt.below S5.2 hW6 (by omega)⟩
      have C6 : WholeAt w6 (w.heap.size + 1 + 1) false 0 zP := RowAt.below C5 hW6 (by omega)
      have hB6 : Below w.heap.size w w6 := hB5.trans (hW6.mono hB5.size)
      obtain ⟨re, im, hm, hF, hab⟩ := cmul_small hx hy hx' hy' (by rw [Int.natAbs_natCast]; exact (HP.out.2.little hj1).2) (by rw [sg_abs]; exact (HP.out.1.little hk1).2) (by rw [Int.natAbs_natCast]; exact (HP'.out.2.little hj1').2) (by rw [sg_abs]; exact (HP'.out.1.little hk1').2)
      obtain ⟨Z, hZ⟩ : ∃ Z, Z = sg g n * (m' : Int) + sg g' n' * (m : Int) := ⟨_, rfl⟩
      rw [← hZ] at hF hab
      have HZ : Hid (Z = topZ g n m g' n' m') := hZ
      have hmul : ∀ w, (binOp .mul 72 (.complex .f64 x y) (.complex .f64 x' y')).run Try.prog w = .ok (.complex .f64 re im) w := fun w => run_complex_mul w _ _ _ _ _ _ _ hm
      have hcv : ∀ w, (convert 71 3 (.float .f64 im)).run Try.prog w = .ok (.int .i64 Z) w := fun w => run_convert_float_int w _ _ _ _ _ _ rfl Try.underlying3 (hF.toInt (by omega) (by omega))
      have hz1' : -400000000000000 ≤ Z := by omega
      have hz2' : Z ≤ 400000000000000 := by omega
      clear S5 C5 hB5 hW6 hx hy hx' hy' hm hF hab hZ
      refine ⟨_, rfl, S6, ?_⟩
      simp only [Act.put, List.setIfInBounds_toArray, List.set_cons_zero, List.set_cons_succ]
      refine held_valS 4 (some 15) rfl rfl (by kernel_rfl) (by kernel_rfl) (by kernel_rfl) noPanic_put rfl (.complex .f64 re im) (fun w _ => by have h := hmul w; go_simp) S6 ?_
      simp only [Act.put, List.setIfInBounds_toArray, List.set_cons_zero, List.set_cons_succ]
      refine held_valS 5 (some 16) rfl rfl (by kernel_rfl) (by kernel_rfl) (by kernel_rfl) noPanic_put rfl (.float .f64 im) (fun _ _ => by go_simp) S6 ?_
      simp only [Act.put, List.setIfInBounds_toArray, List.set_cons_zero, List.set_cons_succ]
      refine held_valS 6 (some 17) rfl rfl (by kernel_rfl) (by kernel_rfl) (by kernel_rfl) noPanic_put rfl (.int .i64 Z) (fun w _ => by have h := hcv w; go_simp) S6 ?_
      simp only [Act.put, List.setIfInBounds_toArray, List.set_cons_zero, List.set_cons_succ]
      refine held_call 7 (some 18) (by kernel_rfl) rfl rfl rfl 43 #[.int .i64 Z] (by go_simp) _ (smallWhole_any Z w6 hz1' hz2') ?_
      rintro e w7 ⟨i, r, rfl, hR7, hW7⟩
      rw [HZ.out] at hR7 ⊢
      have hr := hR7.len
      have hs7 := hW7.size
      have HR7 := hide hR7
      have S7 : NumAt w7 w.heap.size g k p j q ∧ NumAt w7 (w.heap.size + 1) g' k' p' j' q' := ⟨RowAt.below S6.1 hW7 (by omega), RowAt.below S6.2 hW7 (by omega)⟩
      have C7 : WholeAt w7 (w.heap.size + 1 + 1) false 0 zP := RowAt.below C6 hW7 (by omega)
      have hB7 : Below w.heap.size w w7 := hB6.trans (hW7.mono hB6.size)
      obtain ⟨G, hG⟩ : ∃ G, G = decide (topZ g n m g' n' m' < 0) := ⟨_, rfl⟩
      rw [← hG]
      have HG := hide hG
      clear S6 C6 hB6 hR7 hW7 hG
      refine ⟨_, rfl, S7, ?_⟩
      simp only [Act.put, List.setIfInBounds_toArray, List.set_cons_zero, List.set_cons_succ]
      refine held_store_whole 8 (by kernel_rfl) rfl rfl _ _ rfl rfl (w.heap.size + 1 + 1) G i r rfl rfl false 0 zP C7 zP_len hr ?_
      intro w8 hN8 hg8 hs8
      refine ⟨⟨RowAt.grown S7.1 hg8 (by simp; omega), RowAt.grown S7.2 hg8 (by simp)⟩, ?_⟩
      refine wpAnyH_done (by kernel_rfl) ?_ _
      refine NoPanic.normal ?_
      go_wp2
      refine bodyPost_ret (v := .agg (wholeC G i r)) (res_whole Try.results22 _ _ (w.heap.size + 1 + 1) _ _ _ rfl hN8 hr) rfl ⟨i, r, by rw [HG.out], HR7.out, ?_⟩
      exact hB7.grown hg8 (by have := hB7.size; omega) (by intro k hk; cases hk; omega)
    · have hf : (decide (k' ≤ 1) && decide (j' ≤ 1)) = false := by
        by_cases h : k' ≤ 1
        · rw [decide_eq_false (fun h2 => hs' ⟨h, h2⟩), Bool.and_false]
        · rw [decide_eq_false h, Bool.false_and]
      rw [hf]
      clear hf
      go_wp2_with fail
      refine held_begin (fun w' => NumAt w' w.heap.size g k p j q ∧ NumAt w' (w.heap.size + 1) g' k' p' j' q') (by kernel_rfl) ?_
      have hS : NumAt w2.drew w.heap.size g k p j q ∧ NumAt w2.drew (w.heap.size + 1) g' k' p' j' q' := ⟨A, B⟩
      refine held_valS 0 (some 19) rfl rfl (by kernel_rfl) (by kernel_rfl) (by kernel_rfl) noPanic_put rfl (.pointer (some ⟨w.heap.size, 0, none⟩)) (fun _ _ => by go_simp) hS ?_
      simp only [Act.put, List.setIfInBounds_toArray, List.set_cons_zero, List.set_cons_succ]
      refine held_valS 1 (some 20) rfl rfl (by kernel_rfl) (by kernel_rfl) (by kernel_rfl) noPanic_put rfl (.agg (wholeC g k p)) (fun _ h => run_mid_whole _ rfl w.heap.size 0 rfl g k p h.1.whole hp) hS ?_
      simp only [Act.put, List.setIfInBounds_toArray, List.set_cons_zero, List.set_cons_succ]
      refine held_valS 2 (some 21) rfl rfl (by kernel_rfl) (by kernel_rfl) (by kernel_rfl) noPanic_put rfl (.pointer (some ⟨w.heap.size + 1, 206, none⟩)) (fun _ _ => by go_simp) hS ?_
      simp only [Act.put, List.setIfInBounds_toArray, List.set_cons_zero, List.set_cons_succ]
      refine held_valS 3 (some 22) rfl rfl (by kernel_rfl) (by kernel_rfl) (by kernel_rfl) noPanic_put rfl (.agg (natC j' q')) (fun _ h => run_mid_nat _ rfl (w.heap.size + 1) 206 rfl j' q' (h.2.bottom hp') hq') hS ?_
      simp only [Act.put, List.setIfInBounds_toArray, List.set_cons_zero, List.set_cons_succ]
      refine held_valS 5 (some 24) rfl rfl (by kernel_rfl) (by kernel_rfl) (by kernel_rfl) noPanic_put rfl (.pointer (some ⟨w.heap.size + 1, 0, none⟩)) (fun _ _ => by go_simp) hS ?_
      simp only [Act.put, List.setIfInBounds_toArray, List.set_cons_zero, List.set_cons_succ]
      refine held_valS 6 (some 25) rfl rfl (by kernel_rfl) (by kernel_rfl) (by kernel_rfl) noPanic_put rfl (.agg (wholeC g' k' p')) (fun _ h => run_mid_whole _ rfl (w.heap.size + 1) 0 rfl g' k' p' h.2.whole hp') hS ?_
      simp only [Act.put, List.setIfInBounds_toArray, List.set_cons_zero, List.set_cons_succ]
      refine held_valS 7 (some 26) rfl rfl (by kernel_rfl) (by kernel_rfl) (by kernel_rfl) noPanic_put rfl (.pointer (some ⟨w.heap.size, 206, none⟩)) (fun _ _ => by go_simp) hS ?_
      simp only [Act.put, List.setIfInBounds_toArray, List.set_cons_zero, List.set_cons_succ]
      refine held_valS 8 (some 27) rfl rfl (by kernel_rfl) (by kernel_rfl) (by kernel_rfl) noPanic_put rfl (.agg (natC j q)) (fun _ h => run_mid_nat _ rfl w.heap.size 206 rfl j q (h.1.bottom hp) hq) hS ?_
      simp only [Act.put, List.setIfInBounds_toArray, List.set_cons_zero, List.set_cons_succ]
      refine held_call 4 (some 23) (by kernel_rfl) rfl rfl rfl 45 #[.agg (wholeC g k p), .agg (natC j' q')] (by go_simp) _ (scaled_any g w2.drew HP.out.1 HP'.out.2 hk hj') ?_
      rintro e w5 ⟨c, t, rfl, hR5, hW5⟩
      have hW5 : Below w2.heap.size w2 w5 := ⟨hW5.os, hW5.tape, hW5.output, hW5.size, hW5.block⟩
      have hs5 := hW5.size
      have hc : c ≤ 201 := by have := Rep.mul_used HP.out.1 HP'.out.2 hR5; omega
      have HR5 := hide hR5
      have S5 : NumAt w5 w.heap.size g k p j q ∧ NumAt w5 (w.heap.size + 1) g' k' p' j' q' := ⟨RowAt.below A hW5 (by omega), RowAt.below B hW5 (by omega)⟩
      have C5 : WholeAt w5 (w.heap.size + 1 + 1) false 0 zP := RowAt.below C hW5 (by omega)
      have hB5 : Below w.heap.size w w5 := hB.trans (hW5.mono hB.size)
      clear A B C hB hS hR5 hW5
      refine ⟨_, rfl, S5, ?_⟩
      simp only [Act.put, List.setIfInBounds_toArray, List.set_cons_zero, List.set_cons_succ]
      refine held_call 9 (some 28) (by kernel_rfl) rfl rfl rfl 45 #[.agg (wholeC g' k' p'), .agg (natC j q)] (by go_simp) _ (scaled_any g' w5 HP'.out.1 HP.out.2 hk' hj) ?_
      rintro e w6 ⟨d, u, rfl, hR6, hW6⟩
      have hs6 := hW6.size
      have hd : d ≤ 201 := by have := Rep.mul_used HP'.out.1 HP.out.2 hR6; omega
      have HR6 := hide hR6
      have S6 : NumAt w6 w.heap.size g k p j q ∧ NumAt w6 (w.heap.size + 1) g' k' p' j' q' := ⟨RowAt.below S5.1 hW6 (by omega), RowAt.below S5.2 hW6 (by omega)⟩
      have C6 : WholeAt w6 (w.heap.size + 1 + 1) false 0 zP := RowAt.below C5 hW6 (by omega)
      have hB6 : Below w.heap.size w w6 := hB5.trans (hW6.mono hB5.size)
      clear S5 C5 hB5 hR6 hW6
      refine ⟨_, rfl, S6, ?_⟩
      simp only [Act.put, List.setIfInBounds_toArray, List.set_cons_zero, List.set_cons_succ]
      refine held_call 10 (some 29) (by kernel_rfl) rfl rfl rfl 46 #[.agg (wholeC g c t), .agg (wholeC g' d u)] (by go_simp) _ (added_any g g' w6 HR5.out HR6.out hc hd (fun h => Nat.mul_ne_zero (H0.out.1 h) H0.out.2)) ?_
      rintro e w7 ⟨i, r, rfl, hR7, hW7⟩
      rw [topZ_eq] at hR7 ⊢
      have hr := hR7.len
      have hs7 := hW7.size
      have HR7 := hide hR7
      have S7 : NumAt w7 w.heap.size g k p j q ∧ NumAt w7 (w.heap.size + 1) g' k' p' j' q' := ⟨RowAt.below S6.1 hW7 (by omega), RowAt.below S6.2 hW7 (by omega)⟩
      have C7 : WholeAt w7 (w.heap.size + 1 + 1) false 0 zP := RowAt.below C6 hW7 (by omega)
      have hB7 : Below w.heap.size w w7 := hB6.trans (hW7.mono hB6.size)
      obtain ⟨G, hG⟩ : ∃ G, G = decide (topZ g n m g' n' m' < 0) := ⟨_, rfl⟩
      rw [← hG]
      have HG := hide hG
      clear S6 C6 hB6 hR7 hW7 hG
      refine ⟨_, rfl, S7, ?_⟩
      simp only [Act.put, List.setIfInBounds_toArray, List.set_cons_zero, List.set_cons_succ]
      refine held_store_whole 11 (by kernel_rfl) rfl rfl _ _ rfl rfl (w.heap.size + 1 + 1) G i r rfl rfl false 0 zP C7 zP_len hr ?_
      intro w8 hN8 hg8 hs8
      refine ⟨⟨RowAt.grown S7.1 hg8 (by simp; omega), RowAt.grown S7.2 hg8 (by simp)⟩, ?_⟩
      refine wpAnyH_done (by kernel_rfl) ?_ _
      refine NoPanic.normal ?_
      go_wp2
      refine bodyPost_ret (v := .agg (wholeC G i r)) (res_whole Try.results22 _ _ (w.heap.size + 1 + 1) _ _ _ rfl hN8 hr) rfl ⟨i, r, by rw [HG.out], HR7.out, ?_⟩
      exact hB7.grown hg8 (by have := hB7.size; omega) (by intro k hk; cases hk; omega)
  · have hf : (decide (k ≤ 1) && decide (j ≤ 1)) = false := by
      by_cases h : k ≤ 1
      · rw [decide_eq_false (fun h2 => hs ⟨h, h2⟩), Bool.and_false]
      · rw [decide_eq_false h, Bool.false_and]
    rw [hf]
    clear hf
    have A := A1
    have B := B1
    have C := C1
    have hB := hB1
    clear A1 B1 C1 hB1
    go_wp2_with fail
    refine held_begin (fun w' => NumAt w' w.heap.size g k p j q ∧ NumAt w' (w.heap.size + 1) g' k' p' j' q') (by kernel_rfl) ?_
    have hS : NumAt w1.drew w.heap.size g k p j q ∧ NumAt w1.drew (w.heap.size + 1) g' k' p' j' q' := ⟨A, B⟩
    refine held_valS 0 (some 19) rfl rfl (by kernel_rfl) (by kernel_rfl) (by kernel_rfl) noPanic_put rfl (.pointer (some ⟨w.heap.size, 0, none⟩)) (fun _ _ => by go_simp) hS ?_
    simp only [Act.put, List.setIfInBounds_toArray, List.set_cons_zero, List.set_cons_succ]
    refine held_valS 1 (some 20) rfl rfl (by kernel_rfl) (by kernel_rfl) (by kernel_rfl) noPanic_put rfl (.agg (wholeC g k p)) (fun _ h => run_mid_whole _ rfl w.heap.size 0 rfl g k p h.1.whole hp) hS ?_
    simp only [Act.put, List.setIfInBounds_toArray, List.set_cons_zero, List.set_cons_succ]
    refine held_valS 2 (some 21) rfl rfl (by kernel_rfl) (by kernel_rfl) (by kernel_rfl) noPanic_put rfl (.pointer (some ⟨w.heap.size + 1, 206, none⟩)) (fun _ _ => by go_simp) hS ?_
    simp only [Act.put, List.setIfInBounds_toArray, List.set_cons_zero, List.set_cons_succ]
    refine held_valS 3 (some 22) rfl rfl (by kernel_rfl) (by kernel_rfl) (by kernel_rfl) noPanic_put rfl (.agg (natC j' q')) (fun _ h => run_mid_nat _ rfl (w.heap.size + 1) 206 rfl j' q' (h.2.bottom hp') hq') hS ?_
    simp only [Act.put, List.setIfInBounds_toArray, List.set_cons_zero, List.set_cons_succ]
    refine held_valS 5 (some 24) rfl rfl (by kernel_rfl) (by kernel_rfl) (by kernel_rfl) noPanic_put rfl (.pointer (some ⟨w.heap.size + 1, 0, none⟩)) (fun _ _ => by go_simp) hS ?_
    simp only [Act.put, List.setIfInBounds_toArray, List.set_cons_zero, List.set_cons_succ]
    refine held_valS 6 (some 25) rfl rfl (by kernel_rfl) (by kernel_rfl) (by kernel_rfl) noPanic_put rfl (.agg (wholeC g' k' p')) (fun _ h => run_mid_whole _ rfl (w.heap.size + 1) 0 rfl g' k' p' h.2.whole hp') hS ?_
    simp only [Act.put, List.setIfInBounds_toArray, List.set_cons_zero, List.set_cons_succ]
    refine held_valS 7 (some 26) rfl rfl (by kernel_rfl) (by kernel_rfl) (by kernel_rfl) noPanic_put rfl (.pointer (some ⟨w.heap.size, 206, none⟩)) (fun _ _ => by go_simp) hS ?_
    simp only [Act.put, List.setIfInBounds_toArray, List.set_cons_zero, List.set_cons_succ]
    refine held_valS 8 (some 27) rfl rfl (by kernel_rfl) (by kernel_rfl) (by kernel_rfl) noPanic_put rfl (.agg (natC j q)) (fun _ h => run_mid_nat _ rfl w.heap.size 206 rfl j q (h.1.bottom hp) hq) hS ?_
    simp only [Act.put, List.setIfInBounds_toArray, List.set_cons_zero, List.set_cons_succ]
    refine held_call 4 (some 23) (by kernel_rfl) rfl rfl rfl 45 #[.agg (wholeC g k p), .agg (natC j' q')] (by go_simp) _ (scaled_any g w1.drew HP.out.1 HP'.out.2 hk hj') ?_
    rintro e w5 ⟨c, t, rfl, hR5, hW5⟩
    have hW5 : Below w1.heap.size w1 w5 := ⟨hW5.os, hW5.tape, hW5.output, hW5.size, hW5.block⟩
    have hs5 := hW5.size
    have hc : c ≤ 201 := by have := Rep.mul_used HP.out.1 HP'.out.2 hR5; omega
    have HR5 := hide hR5
    have S5 : NumAt w5 w.heap.size g k p j q ∧ NumAt w5 (w.heap.size + 1) g' k' p' j' q' := ⟨RowAt.below A hW5 (by omega), RowAt.below B hW5 (by omega)⟩
    have C5 : WholeAt w5 (w.heap.size + 1 + 1) false 0 zP := RowAt.below C hW5 (by omega)
    have hB5 : Below w.heap.size w w5 := hB.trans (hW5.mono hB.size)
    clear A B C hB hS hR5 hW5
    refine ⟨_, rfl, S5, ?_⟩
    simp only [Act.put, List.setIfInBounds_toArray, List.set_cons_zero, List.set_cons_succ]
    refine held_call 9 (some 28) (by kernel_rfl) rfl rfl rfl 45 #[.agg (wholeC g' k' p'), .agg (natC j q)] (by go_simp) _ (scaled_any g' w5 HP'.out.1 HP.out.2 hk' hj) ?_
    rintro e w6 ⟨d, u, rfl, hR6, hW6⟩
    have hs6 := hW6.size
    have hd : d ≤ 201 := by have := Rep.mul_used HP'.out.1 HP.out.2 hR6; omega
    have HR6 := hide hR6
    have S6 : NumAt w6 w.heap.size g k p j q ∧ NumAt w6 (w.heap.size + 1) g' k' p' j' q' := ⟨RowAt.below S5.1 hW6 (by omega), RowAt.below S5.2 hW6 (by omega)⟩
    have C6 : WholeAt w6 (w.heap.size + 1 + 1) false 0 zP := RowAt.below C5 hW6 (by omega)
    have hB6 : Below w.heap.size w w6 := hB5.trans (hW6.mono hB5.size)
    clear S5 C5 hB5 hR6 hW6
    refine ⟨_, rfl, S6, ?_⟩
    simp only [Act.put, List.setIfInBounds_toArray, List.set_cons_zero, List.set_cons_succ]
    refine held_call 10 (some 29) (by kernel_rfl) rfl rfl rfl 46 #[.agg (wholeC g c t), .agg (wholeC g' d u)] (by go_simp) _ (added_any g g' w6 HR5.out HR6.out hc hd (fun h => Nat.mul_ne_zero (H0.out.1 h) H0.out.2)) ?_
    rintro e w7 ⟨i, r, rfl, hR7, hW7⟩
    rw [topZ_eq] at hR7 ⊢
    have hr := hR7.len
    have hs7 := hW7.size
    have HR7 := hide hR7
    have S7 : NumAt w7 w.heap.size g k p j q ∧ NumAt w7 (w.heap.size + 1) g' k' p' j' q' := ⟨RowAt.below S6.1 hW7 (by omega), RowAt.below S6.2 hW7 (by omega)⟩
    have C7 : WholeAt w7 (w.heap.size + 1 + 1) false 0 zP := RowAt.below C6 hW7 (by omega)
    have hB7 : Below w.heap.size w w7 := hB6.trans (hW7.mono hB6.size)
    obtain ⟨G, hG⟩ : ∃ G, G = decide (topZ g n m g' n' m' < 0) := ⟨_, rfl⟩
    rw [← hG]
    have HG := hide hG
    clear S6 C6 hB6 hR7 hW7 hG
    refine ⟨_, rfl, S7, ?_⟩
    simp only [Act.put, List.setIfInBounds_toArray, List.set_cons_zero, List.set_cons_succ]
    refine held_store_whole 11 (by kernel_rfl) rfl rfl _ _ rfl rfl (w.heap.size + 1 + 1) G i r rfl rfl false 0 zP C7 zP_len hr ?_
    intro w8 hN8 hg8 hs8
    refine ⟨⟨RowAt.grown S7.1 hg8 (by simp; omega), RowAt.grown S7.2 hg8 (by simp)⟩, ?_⟩
    refine wpAnyH_done (by kernel_rfl) ?_ _
    refine NoPanic.normal ?_
    go_wp2
    refine bodyPost_ret (v := .agg (wholeC G i r)) (res_whole Try.results22 _ _ (w.heap.size + 1 + 1) _ _ _ rfl hN8 hr) rfl ⟨i, r, by rw [HG.out], HR7.out, ?_⟩
    exact hB7.grown hg8 (by have := hB7.size; omega) (by intro k hk; cases hk; omega)
end Go.Proofs.Ytcdidibphaemoaa

/-
  What compare of impl's fractions and impl.CompareNum answer.
-/
namespace Go.Proofs.Ytcdidibphaemoaa
open Go.RowKit
set_option linter.unusedVariables false

theorem sgn_of {Z : Int} {i : Nat} {r : List Int} (h : Rep Z.natAbs i r) : sgn (decide (Z < 0)) i = sgnZ Z := by
  have hz := h.zero_iff
  unfold sgn sgnZ
  by_cases e : i = 0
  · rw [if_pos e, if_pos (by have := hz.1 e; omega)]
  · have e2 : ¬ Z = 0 := fun e' => e (hz.2 (by omega))
    rw [if_neg e, if_neg e2]
    by_cases hn : Z < 0
    · rw [decide_eq_true hn, if_pos rfl, if_pos hn]
    · rw [decide_eq_false hn, if_neg (by decide), if_neg hn]

set_option maxHeartbeats 1000000 in
set_option maxRecDepth 100000 in
theorem compareN_any {n m k j n' m' k' j' : Nat} {p q p' q' : List Int} (g g' : Bool) (w : World) (hP : Rep n k p) (hQ : Rep m j q) (hP' : Rep n' k' p') (hQ' : Rep m' j' q') (hk : k ≤ 100) (hj : j ≤ 100) (hk' : k' ≤ 100) (hj' : j' ≤ 100) (h0 : g = true → n ≠ 0) (h1' : m' ≠ 0) :
    Calls Try.prog 13 #[.agg (numC g k p j q), .agg (numC g' k' p' j' q')] w fun e w' => e = .returned (.int .i64 (sgnZ (topZ g n m (!g') n' m'))) ∧ Below w.heap.size w w' := by
  have hp := hP.len
  have hq := hQ.len
  have hp' := hP'.len
  have hq' := hQ'.len
  have A : NumAt ((w.alloc (.cells (numC g k p j q) 34)).alloc (.cells (numC g' k' p' j' q') 34)) w.heap.size g k p j q := RowAt.old (NumAt.new w g k p j q) _
  have B : NumAt ((w.alloc (.cells (numC g k p j q) 34)).alloc (.cells (numC g' k' p' j' q') 34)) (w.heap.size + 1) g' k' p' j' q' := by
    have := NumAt.new (w.alloc (.cells (numC g k p j q) 34)) g' k' p' j' q'
    simp only [World.size_alloc] at this; exact this
  have hB : Below w.heap.size w ((w.alloc (.cells (numC g k p j q) 34)).alloc (.cells (numC g' k' p' j' q') 34)) := ((Below.refl _ _).alloc (Nat.le_refl _) _).alloc (by simp) _
  obtain ⟨W, hWd⟩ : ∃ W, W = ((w.alloc (.cells (numC g k p j q) 34)).alloc (.cells (numC g' k' p' j' q') 34)) := ⟨_, rfl⟩
  have hWs : W.heap.size = w.heap.size + 1 + 1 := by rw [hWd]; simp
  have HP := hide (And.intro hP hQ)
  have HP' := hide (And.intro hP' hQ')
  have H0 := hide (And.intro h0 h1')
  clear hP hQ hP' hQ' h0 h1'
  go_enter Try.func13, Try.ntmps13
  go_wp2_with fail
  rw [← hWd] at A B hB ⊢
  clear hWd
  refine held_begin (fun w' => NumAt w' w.heap.size g k p j q ∧ NumAt w' (w.heap.size + 1) g' k' p' j' q') (by kernel_rfl) ?_
  have hS : NumAt W.drew w.heap.size g k p j q ∧ NumAt W.drew (w.heap.size + 1) g' k' p' j' q' := ⟨A, B⟩
  refine held_load_num 0 (some 5) rfl rfl (by kernel_rfl) (by kernel_rfl) (by kernel_rfl) noPanic_put rfl _ rfl w.heap.size rfl g k p j q (fun _ h => h.1) hp hq hS ?_
  simp only [Act.put, List.setIfInBounds_toArray, List.set_cons_zero, List.set_cons_succ]
  refine held_load_num 1 (some 6) rfl rfl (by kernel_rfl) (by kernel_rfl) (by kernel_rfl) noPanic_put rfl _ rfl (w.heap.size + 1) rfl g' k' p' j' q' (fun _ h => h.2) hp' hq' hS ?_
  simp only [Act.put, List.setIfInBounds_toArray, List.set_cons_zero, List.set_cons_succ]
  refine held_call 2 (some 7) (by kernel_rfl) rfl rfl rfl 23 #[.agg (numC g' k' p' j' q')] (by go_simp) _ (negated_any g' W.drew hp' hq') ?_
  rintro e w5 ⟨rfl, hW5⟩
  have hW5 : Below W.heap.size W w5 := ⟨hW5.os, hW5.tape, hW5.output, hW5.size, hW5.block⟩
  have hs5 := hW5.size
  have S5 : NumAt w5 w.heap.size g k p j q ∧ NumAt w5 (w.heap.size + 1) g' k' p' j' q' := ⟨RowAt.below A hW5 (by omega), RowAt.below B hW5 (by omega)⟩
  have hB5 : Below w.heap.size w w5 := hB.trans (hW5.mono hB.size)
  obtain ⟨v, hv⟩ : ∃ v, v = (!g' && decide (0 < k')) := ⟨_, rfl⟩
  rw [← hv]
  have HV : Hid (topZ g n m v n' m' = topZ g n m (!g') n' m') := by
    have h1 : v = (!g' && decide (n' ≠ 0)) := by
      rw [hv]
      congr 1
      have := HP'.out.1.zero_iff
      by_cases e : k' = 0
      · rw [decide_eq_false (by omega), decide_eq_false (by simpa using this.1 e)]
      · rw [decide_eq_true (by omega), decide_eq_true (show n' ≠ 0 from fun e' => e (this.2 e'))]
    unfold Hid topZ
    rw [h1, sg_turn]
  clear A B hB hS hW5 hv
  refine ⟨_, rfl, S5, ?_⟩
  simp only [Act.put, List.setIfInBounds_toArray, List.set_cons_zero, List.set_cons_succ]
  refine held_call 3 (some 8) (by kernel_rfl) rfl rfl rfl 22 #[.agg (numC g k p j q), .agg (numC v k' p' j' q')] (by go_simp) _ (sumTop_any g v w5 HP.out.1 HP.out.2 HP'.out.1 HP'.out.2 hk hj hk' hj' H0.out.1 H0.out.2) ?_
  rintro e w6 ⟨i, r, rfl, hR, hW6⟩
  rw [HV.out] at hR ⊢
  have HR := hide hR
  have hs6 := hW6.size
  have S6 : NumAt w6 w.heap.size g k p j q ∧ NumAt w6 (w.heap.size + 1) g' k' p' j' q' := ⟨RowAt.below S5.1 hW6 (by omega), RowAt.below S5.2 hW6 (by omega)⟩
  have hB6 : Below w.heap.size w w6 := hB5.trans (hW6.mono hB5.size)
  obtain ⟨G, hG⟩ : ∃ G, G = decide (topZ g n m (!g') n' m' < 0) := ⟨_, rfl⟩
  rw [← hG]
  have HG := hide hG
  clear S5 hB5 hW6 hR hG
  refine ⟨_, rfl, S6, ?_⟩
  simp only [Act.put, List.setIfInBounds_toArray, List.set_cons_zero, List.set_cons_succ]
  refine held_call 4 (some 9) (by kernel_rfl) rfl rfl rfl 24 #[.agg (wholeC G i r)] (by go_simp) _ (sign_any G w6) ?_
  rintro e w7 ⟨rfl, hW7⟩
  have hs7 := hW7.size
  have S7 : NumAt w7 w.heap.size g k p j q ∧ NumAt w7 (w.heap.size + 1) g' k' p' j' q' := ⟨RowAt.below S6.1 hW7 (by omega), RowAt.below S6.2 hW7 (by omega)⟩
  have hB7 : Below w.heap.size w w7 := hB6.trans (hW7.mono hB6.size)
  have HZ : Hid (sgn G i = sgnZ (topZ g n m (!g') n' m')) := by unfold Hid; rw [HG.out]; exact sgn_of HR.out
  obtain ⟨c, hc⟩ : ∃ c, c = sgn G i := ⟨_, rfl⟩
  rw [← hc] at HZ ⊢
  clear S6 hB6 hW7 hc
  refine ⟨_, rfl, S7, ?_⟩
  simp only [Act.put, List.setIfInBounds_toArray, List.set_cons_zero, List.set_cons_succ]
  refine held_assign 5 (some 4) (by kernel_rfl) rfl rfl _ rfl rfl (.int .i64 c) rfl S7 ?_
  simp only [Act.put, List.setIfInBounds_toArray, List.set_cons_zero, List.set_cons_succ]
  refine wpAnyH_done (by kernel_rfl) ?_ _
  refine NoPanic.normal ?_
  go_wp2
  go_ret
  exact ⟨by rw [← HZ.out]; rfl, hB7⟩

set_option maxHeartbeats 1000000 in
set_option maxRecDepth 100000 in
theorem implCmpNum_any (a b : ByteArray) (w : World) (hsa : a.size ≤ maxLen) (hsb : b.size ≤ maxLen) :
    Calls Try.prog 8 #[.string a, .string b] w fun e w' => CmpNAns a b e ∧ Below w.heap.size w w' := by
  have hz := zero_num.1
  go_enter Try.func8, Try.ntmps8
  go_wp2_with fail
  refine (readNums_any a b _ hsa hsb).mono ?_
  rintro e w1 ⟨g, g', k, j, k', j', p, q, p', q', rfl, ⟨hp, hq, hRa⟩, ⟨hp', hq', hRb⟩, hW1⟩
  have hs1 := hW1.size
  have A : NumAt ((w1.alloc (.cells (numC false 0 zP 0 zP) 34)).alloc (.cells (numC false 0 zP 0 zP) 34)) w1.heap.size false 0 zP 0 zP := RowAt.old (NumAt.new w1 false 0 zP 0 zP) _
  have B : NumAt ((w1.alloc (.cells (numC false 0 zP 0 zP) 34)).alloc (.cells (numC false 0 zP 0 zP) 34)) (w1.heap.size + 1) false 0 zP 0 zP := by
    have := NumAt.new (w1.alloc (.cells (numC false 0 zP 0 zP) 34)) false 0 zP 0 zP
    simp only [World.size_alloc] at this; exact this
  have hB : Below w.heap.size w ((w1.alloc (.cells (numC false 0 zP 0 zP) 34)).alloc (.cells (numC false 0 zP 0 zP) 34)) := (hW1.alloc (by omega) _).alloc (by simp; omega) _
  cases hok : (okN a.data.toList && okN b.data.toList) with
  | true =>
    obtain ⟨ha, hb⟩ : okN a.data.toList = true ∧ okN b.data.toList = true := by simpa using hok
    obtain ⟨hg, ra, rb, hk, hj, hj0⟩ := hRa ha
    obtain ⟨hg', ra', rb', hk', hj', hj0'⟩ := hRb hb
    have RA := hide (And.intro ra rb)
    have RB := hide (And.intro ra' rb')
    have HG := hide (And.intro hg hg')
    have HK := hide hok
    have H0 : Hid ((g = true → topN a.data.toList ≠ 0) ∧ botN b.data.toList ≠ 0) := ⟨fun h => okN_neg' ha (by rw [← hg]; exact h), okN_bot' hb⟩
    clear ha hb hg hg' ra rb ra' rb' hRa hRb hok
    go_wp2_with (first | (refine store_num rfl _ _ rfl rfl w1.heap.size g k p j q rfl rfl false 0 zP 0 zP A zP_len zP_len hp hq ?_; intro w2 hN2 hg2 hs2) | (refine store_num rfl _ _ rfl rfl (w1.heap.size + 1) g' k' p' j' q' rfl rfl false 0 zP 0 zP (RowAt.grown B hg2 (by simp)) zP_len zP_len hp' hq' ?_; intro w3 hN3 hg3 hs3) | (refine load_num rfl _ rfl w1.heap.size rfl g k p j q (RowAt.grown hN2 hg3 (by simp)) hp hq ?_) | (refine load_num rfl _ rfl (w1.heap.size + 1) rfl g' k' p' j' q' hN3 hp' hq' ?_))
    have hB3 : Below w.heap.size w w3 := (hB.grown hg2 (by simp; omega) (by intro k hk; cases hk; omega)).grown hg3 (by rw [hs2]; simp; omega) (by intro k hk; cases hk; omega)
    clear A B hB hN2 hg2 hs2 hN3 hg3 hs3
    refine (compareN_any g g' w3 RA.out.1 RA.out.2 RB.out.1 RB.out.2 hk hj hk' hj' H0.out.1 H0.out.2).mono ?_
    rintro e w4 ⟨rfl, hW4⟩
    have hB4 : Below w.heap.size w w4 := hB3.trans (hW4.mono hB3.size)
    have hZ : topZ g (topN a.data.toList) (botN a.data.toList) (!g') (topN b.data.toList) (botN b.data.toList) = addZ true a b := by
      unfold addZ; rw [HG.out.1, HG.out.2]; cases negN b.data.toList <;> rfl
    rw [hZ]
    have HI : Hid (CmpNAns a b (.returned (.tuple #[.int .i64 (sgnZ (addZ true a b)), .bool true]))) := .inl ⟨HK.out, rfl⟩
    obtain ⟨c, hc⟩ : ∃ c, c = sgnZ (addZ true a b) := ⟨_, rfl⟩
    rw [← hc] at HI ⊢
    clear hc hZ hB3 hW4
    go_wp2
    go_ret2
    exact ⟨HI.out, hB4⟩
  | false =>
    have HI : Hid (CmpNAns a b (.returned (.tuple #[.int .i64 0, .bool false]))) := .inr ⟨hok, rfl⟩
    clear hok hRa hRb
    go_wp2_with (first | (refine store_num rfl _ _ rfl rfl w1.heap.size g k p j q rfl rfl false 0 zP 0 zP A zP_len zP_len hp hq ?_; intro w2 hN2 hg2 hs2) | (refine store_num rfl _ _ rfl rfl (w1.heap.size + 1) g' k' p' j' q' rfl rfl false 0 zP 0 zP (RowAt.grown B hg2 (by simp)) zP_len zP_len hp' hq' ?_; intro w3 hN3 hg3 hs3))
    go_ret2
    exact ⟨HI.out, (hB.grown hg2 (by simp; omega) (by intro k hk; cases hk; omega)).grown hg3 (by rw [hs2]; simp; omega) (by intro k hk; cases hk; omega)⟩
end Go.Proofs.Ytcdidibphaemoaa
