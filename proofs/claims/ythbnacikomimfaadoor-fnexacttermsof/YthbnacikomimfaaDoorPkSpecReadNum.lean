/-
  The texts SpecReadNum, RdCore, ImplReadNum, Floor, one behind the other.
-/
import Derived.Test.YthbnacikomimfaaDoorPkCutNum
import Derived.Test.YthbnacikomimfaaDoorPkSpecParts
import Derived.Test.YthbnacikomimfaaDoorPkSpecSub
import Derived.Test.YthbnacikomimfaaDoorPkImplMake
import Derived.Deep.CutBlock
import Derived.Deep.DeepCutAuto
import Derived.Test.YthbnacikomimfaaDoorPkMinus
import Derived.Deep.QuietTactic
import Derived.BigQuiet
import Derived.Test.YthbnacikomimfaaDoorPkImplDigits
import Derived.Test.YthbnacikomimfaaDoorPkSpecAdd
import Derived.Test.YthbnacikomimfaaDoorPkReadNumA

/-
  What spec.l2Cut, spec.l2Read and spec.ReadNum answer.
-/
namespace Go.Proofs.YthbnacikomimfaaDoor
open Go.RowKit
set_option linter.unusedVariables false

/-- What ReadNum should answer. -/
def ReadAns (s : ByteArray) (e : Ending) : Prop :=
  (rdOkN s.data.toList = true ∧ TellsN (rdNeg s.data.toList && decide (rval (rdRad s.data.toList) (rdTop s.data.toList) ≠ 0)) (rval (rdRad s.data.toList) (rdTop s.data.toList) / Nat.gcd (rval (rdRad s.data.toList) (rdTop s.data.toList)) (rval (rdRad s.data.toList) (rdBot s.data.toList))) (rval (rdRad s.data.toList) (rdBot s.data.toList) / Nat.gcd (rval (rdRad s.data.toList) (rdTop s.data.toList)) (rval (rdRad s.data.toList) (rdBot s.data.toList))) e) ∨ (rdOkN s.data.toList = false ∧ Mute e)
theorem ReadAns.same {s : ByteArray} {e e' : Ending} (h : ReadAns s e) (h' : ReadAns s e') : ∃ (t : ByteArray) (o : Bool), e = .returned (.tuple #[.string t, .bool o]) ∧ e' = .returned (.tuple #[.string t, .bool o]) := by
  rcases h with ⟨g1, h⟩ | ⟨g1, h⟩ <;> rcases h' with ⟨g2, h'⟩ | ⟨g2, h'⟩
  · exact h.same h'
  · rw [g1] at g2; cases g2
  · rw [g1] at g2; cases g2
  · exact h.same h'

theorem byte_ne {c : UInt8} {n : Nat} (hn : n < 256) (h : c ≠ UInt8.ofNat n) : ((c.toNat : Int) == (n : Int)) = false := by
  rw [beq_eq_false_iff_ne]
  intro e
  apply h
  have : c.toNat = n := by omega
  rw [← this]; simp
theorem radN_of {s : ByteArray} (h : 1 < s.size) : radN s.data.toList = if s[0] = 35 then (letR s[1], s.data.toList.drop 2) else (10, s.data.toList) := by
  have h0 := getN 0 (t := s) (by omega)
  have h1 := getN 1 (t := s) (by omega)
  generalize s.data.toList = l at h0 h1 ⊢
  match l, h0, h1 with
  | a :: c :: t, h0, h1 =>
    simp at h0 h1
    subst h0 h1
    rfl
theorem sigN_of {s : ByteArray} (h : 0 < s.size) : sigN s.data.toList = if s[0] = 45 then (true, s.data.toList.drop 1) else if s[0] = 43 then (false, s.data.toList.drop 1) else (false, s.data.toList) := by
  have h0 := getN 0 (t := s) (by omega)
  generalize s.data.toList = l at h0 ⊢
  match l, h0 with
  | a :: t, h0 =>
    simp at h0
    subst h0
    rfl
theorem sigN_none {s : ByteArray} (h : ¬ 0 < s.size) : sigN s.data.toList = (false, s.data.toList) := by
  have h1 : s.data.toList.length = s.size := by simp
  have : s.data.toList = [] := List.length_eq_zero_iff.1 (by omega)
  rw [this]; rfl

theorem rdDig_eq {b : Nat} {o : ByteArray} (h : o.size ≤ 600) : rdDig b o.data.toList = (decide (0 < o.size) && rdigs b o.data.toList) := by
  have hl : o.data.toList.length = o.size := by simp
  unfold rdDig
  rw [hl, decide_eq_true h, Bool.and_true]
theorem rdDig_long {b : Nat} {o : ByteArray} (h : ¬ o.size ≤ 600) : rdDig b o.data.toList = false := by
  have hl : o.data.toList.length = o.size := by simp
  unfold rdDig
  rw [hl, decide_eq_false h]; simp
theorem rdDig_digs {b : Nat} {l : List UInt8} (h : rdDig b l = true) : rdigs b l = true := by
  unfold rdDig at h
  simp only [Bool.and_eq_true] at h
  exact h.2
theorem rad_pow {b k : Nat} (hb : b ≤ 16) : b ^ k ≤ 10 ^ (2 * k) := by
  rw [Nat.pow_mul]
  exact Nat.pow_le_pow_left (by omega) k
theorem rad_sizeK (K : Nat) (hK : 1 ≤ K) {b : Nat} {o t : ByteArray} (hb : b ≤ 16) (ho : o.size ≤ K) (hd : rdigs b o.data.toList = true) (hc : canonB t.data.toList = true) (hv : dval t.data.toList = rval b o.data.toList) : t.size ≤ 2 * K := by
  have hl : o.data.toList.length = o.size := by simp
  have h1 := rval_lt b o.data.toList hd
  rw [hl, ← hv] at h1
  have h2 : 10 ^ (2 * o.size) ≤ 10 ^ (2 * K) := Nat.pow_le_pow_right (by decide) (by omega)
  have h3 := Nat.lt_of_lt_of_le h1 (Nat.le_trans (rad_pow hb) h2)
  have h4 := (canon_len_le hc (2 * K) (by omega)).2 h3
  simpa using h4
theorem rad_size {b : Nat} {o t : ByteArray} (hb : b ≤ 16) (ho : o.size ≤ 600) (hd : rdigs b o.data.toList = true) (hc : canonB t.data.toList = true) (hv : dval t.data.toList = rval b o.data.toList) : t.size ≤ 1200 := rad_sizeK 600 (by decide) hb ho hd hc hv
theorem TellsN.form3 {g : Bool} {n m : Nat} {e : Ending} (h : TellsN g n m e) : ∃ (s : ByteArray) (o : Bool), e = .returned (.tuple #[.string s, .bool o]) := by
  obtain ⟨s, rfl, _, _⟩ := h
  exact ⟨s, _, rfl⟩

/-- Whether a radix's sign stands at the front. -/
def hsh (s : ByteArray) : Bool := decide (1 < s.size) && s.data.toList.head? == some 35
theorem hsh_of {s : ByteArray} (h : 1 < s.size) : hsh s = (s[0] == 35) := by
  unfold hsh
  rw [decide_eq_true h, List.head?_eq_getElem?, getN 0 (by omega)]; rfl
theorem hsh_no {s : ByteArray} (h : hsh s = false) : radN s.data.toList = (10, s.data.toList) := by
  by_cases h1 : 1 < s.size
  · rw [hsh_of h1] at h
    rw [radN_of h1, if_neg (by simpa using h)]
  · exact radN_short (by have : s.data.toList.length = s.size := by simp
                         omega)
theorem hsh_yes {s : ByteArray} (h : hsh s = true) : 1 < s.size ∧ radN s.data.toList = (letR (s.data.toList.getD 1 0), s.data.toList.drop 2) := by
  have h1 : 1 < s.size := by unfold hsh at h; simp at h; omega
  rw [hsh_of h1] at h
  refine ⟨h1, ?_⟩
  rw [radN_of h1, if_pos (by simpa using h)]
  simp [List.getD, getN 1 h1]

/-- Whether a sign stands at the front. -/
def sgd (s : ByteArray) : Bool := decide (0 < s.size) && (s.data.toList.head? == some 43 || s.data.toList.head? == some 45)
theorem sgd_of {s : ByteArray} (h : 0 < s.size) : sgd s = (s[0] == 43 || s[0] == 45) := by
  unfold sgd
  rw [decide_eq_true h, List.head?_eq_getElem?, getN 0 h]; rfl
theorem sgd_no {s : ByteArray} (h : sgd s = false) : sigN s.data.toList = (false, s.data.toList) := by
  by_cases h1 : 0 < s.size
  · rw [sgd_of h1] at h
    simp at h
    rw [sigN_of h1, if_neg h.2, if_neg h.1]
  · exact sigN_none h1
theorem sgd_yes {s : ByteArray} (h : sgd s = true) : ∃ h0 : 0 < s.size, sigN s.data.toList = (s[0] == 45, s.data.toList.drop 1) := by
  have h1 : 0 < s.size := by
    by_cases h0 : 0 < s.size
    · exact h0
    · unfold sgd at h; rw [decide_eq_false h0] at h; cases h
  refine ⟨h1, ?_⟩
  rw [sgd_of h1] at h
  rw [sigN_of h1]
  by_cases h45 : s[0] = 45
  · rw [if_pos h45, h45]; rfl
  · rw [if_neg h45]
    have h43 : s[0] = 43 := by simp [h45] at h; exact h
    rw [if_pos h43, h43]; rfl

end Go.Proofs.YthbnacikomimfaaDoor

/-
  What impl.ReadNum reads behind the radix's sign: plain facts, and what cutRadix and cutSign of impl answer.
-/
namespace Go.Proofs.YthbnacikomimfaaDoor
open Go.RowKit
set_option linter.unusedVariables false

def coTop (l : List UInt8) : List UInt8 := (cut47 (sigN l).2).1
def coUnd (l : List UInt8) : List UInt8 := (cut47 (sigN l).2).2.1
def coBrk (l : List UInt8) : Bool := (cut47 (sigN l).2).2.2
def coBot (l : List UInt8) : List UInt8 := if coBrk l then coUnd l else [49]
def coOk (b : Nat) (l : List UInt8) : Bool := (rdDig b (coTop l) && rdDig b (coBot l)) && decide (rval b (coBot l) ≠ 0)
/-- The radix and what stands behind its sign; where a # is none, the text as it is, which no digits are. -/
def RadCut (l : List UInt8) (b : Nat) (t : List UInt8) : Prop := radN l = (b, t) ∨ (b = 10 ∧ t = l ∧ l.head? = some 35 ∧ rdRad l = 0)

theorem coOk_of {l t : List UInt8} {b : Nat} (h : RadCut l b t) (hb : b ≠ 0) : rdOkN l = coOk b t := by
  rcases h with h | ⟨rfl, rfl, h1, h2⟩
  · unfold rdOkN coOk rdTop rdBot rdRad coTop coBot coUnd coBrk
    rw [h]
    simp [hb]
  · have e1 : rdOkN t = false := by unfold rdOkN; rw [h2]; rfl
    rw [e1]
    obtain ⟨m, rfl⟩ : ∃ m, t = 35 :: m := by
      cases t with
      | nil => cases h1
      | cons c m => simp at h1; exact ⟨m, by rw [h1]⟩
    have e2 : coTop (35 :: m) = 35 :: (cut47 m).1 := rfl
    have e3 : rdigs 10 (35 :: (cut47 m).1) = false := by
      unfold rdigs
      rw [List.all_cons]
      have : decide (dg 35 < 10) = false := by decide
      rw [this]; rfl
    unfold coOk rdDig
    rw [e2, e3]; simp

theorem ReadAns.mk' {s t : ByteArray} {b : Nat} (h : RadCut s.data.toList b t.data.toList) (hb : b ≠ 0) {e : Ending}
    (he : (coOk b t.data.toList = true ∧ TellsN ((sigN t.data.toList).1 && decide (rval b (coTop t.data.toList) ≠ 0)) (rval b (coTop t.data.toList) / Nat.gcd (rval b (coTop t.data.toList)) (rval b (coBot t.data.toList))) (rval b (coBot t.data.toList) / Nat.gcd (rval b (coTop t.data.toList)) (rval b (coBot t.data.toList))) e) ∨ (coOk b t.data.toList = false ∧ Mute e)) : ReadAns s e := by
  rcases he with ⟨ho, he⟩ | ⟨ho, he⟩
  · refine .inl ⟨by rw [coOk_of h hb]; exact ho, ?_⟩
    rcases h with h | ⟨rfl, h0, h1, h2⟩
    · unfold rdNeg rdTop rdBot rdRad
      rw [h]
      exact he
    · have := coOk_of (.inr ⟨rfl, h0, h1, h2⟩ : RadCut s.data.toList 10 t.data.toList) hb
      rw [ho] at this
      unfold rdOkN at this
      rw [h2] at this
      cases this
  · exact .inr ⟨by rw [coOk_of h hb]; exact ho, he⟩

theorem below_drewN {B : Nat} {a w : World} (h : Below B a w) (n : Nat) : Below B a (w.drewN n) := ⟨h.os, h.tape, h.output, h.size, h.block⟩
theorem ten_le {n : Nat} (a b : Nat) (hab : a ≤ b) (h : n < 10 ^ a) : n < 10 ^ b := Nat.lt_of_lt_of_le h (Nat.pow_le_pow_right (by decide) hab)
theorem rdOk_dig {b : Nat} {o : ByteArray} (hb : b ≤ 16) (h : o.size ≤ 600) : rdOk b o = rdDig b o.data.toList := by
  rw [rdDig_eq h]
  unfold rdOk
  rw [decide_eq_true (show o.size ≤ 2000 by omega), Bool.and_true]
  cases hd : rdigs b o.data.toList with
  | false => rw [Bool.false_and, Bool.and_false, Bool.and_false]
  | true =>
    have hl : o.data.toList.length = o.size := by simp
    have h1 := rval_lt b o.data.toList hd
    rw [hl] at h1
    have h3 : rval b o.data.toList < 10 ^ 1200 := ten_le (2 * o.size) 1200 (by omega) (Nat.lt_of_lt_of_le h1 (rad_pow hb))
    rw [decide_eq_true h3]
    by_cases h0 : 0 < o.size
    · rw [decide_eq_true h0, decide_eq_true (show 1 ≤ o.size by omega)]; rfl
    · rw [decide_eq_false h0, decide_eq_false (show ¬ 1 ≤ o.size by omega)]; rfl

end Go.Proofs.YthbnacikomimfaaDoor

/-
  What impl.ReadNum answers.
-/
namespace Go.Proofs.YthbnacikomimfaaDoor
open Go.RowKit
set_option linter.unusedVariables false

theorem len_le {s : ByteArray} {n : Nat} (h : s.data.toList.length ≤ n) : s.size ≤ n := by simpa using h

end Go.Proofs.YthbnacikomimfaaDoor

/-
  What floor of impl, impl.FloorNum and spec.FloorNum answer.
-/
namespace Go.Proofs.YthbnacikomimfaaDoor
open Go.RowKit
set_option linter.unusedVariables false

theorem okN_bot {l : List UInt8} (h : okN l = true) : botN l ≠ 0 := by
  unfold okN at h
  unfold botN
  cases hb : brokenN l with
  | false => simp
  | true =>
    rw [hb] at h
    simp only [Bool.and_eq_true, Bool.not_true, Bool.false_or, decide_eq_true_eq] at h
    rw [if_pos rfl]
    exact h.2.2.1
theorem okN_neg {l : List UInt8} (h : okN l = true) (hn : negN l = true) : topN l ≠ 0 := by
  unfold okN at h
  unfold topN
  rw [hn] at h
  simp only [Bool.and_eq_true, Bool.true_and, Bool.not_eq_true', decide_eq_false_iff_not] at h
  exact h.1.2
theorem okN_lt {l : List UInt8} (h : okN l = true) : topN l < 10 ^ 600 := by
  unfold okN at h
  simp only [Bool.and_eq_true] at h
  exact good_lt' h.1.1

/-- The floor's size. -/
def flo (g : Bool) (n m : Nat) : Nat := n / m + if g && decide (n % m ≠ 0) then 1 else 0
theorem flo_le {g : Bool} {n m : Nat} (hg : g = true → n ≠ 0) : flo g n m ≤ n := by
  unfold flo
  cases g with
  | false => simp; exact Nat.div_le_self _ _
  | true =>
    by_cases h : n % m = 0
    · rw [decide_eq_false (by simp [h])]; simp; exact Nat.div_le_self _ _
    · rw [decide_eq_true h]
      have hm : m ≠ 1 := fun e => h (by rw [e]; exact Nat.mod_one _)
      by_cases h0 : m = 0
      · subst h0; simp; have := hg rfl; omega
      · have := Nat.div_lt_self (Nat.pos_of_ne_zero (hg rfl)) (show 1 < m by omega)
        exact this
theorem flo_ne {n m : Nat} (hm : m ≠ 0) (hn : n ≠ 0) : flo true n m ≠ 0 := by
  unfold flo
  by_cases h : n % m = 0
  · rw [decide_eq_false (by simp [h])]
    have := Nat.div_pos (Nat.le_of_dvd (Nat.pos_of_ne_zero hn) (Nat.dvd_of_mod_eq_zero h)) (Nat.pos_of_ne_zero hm)
    exact Nat.ne_of_gt this
  · rw [decide_eq_true h]; simp

def FloorAns (a : ByteArray) (e : Ending) : Prop :=
  (okN a.data.toList = true ∧ TellsN (negN a.data.toList) (flo (negN a.data.toList) (topN a.data.toList) (botN a.data.toList)) 1 e) ∨ (okN a.data.toList = false ∧ Mute e)
theorem FloorAns.same {a : ByteArray} {e e' : Ending} (h : FloorAns a e) (h' : FloorAns a e') : ∃ (s : ByteArray) (o : Bool), e = .returned (.tuple #[.string s, .bool o]) ∧ e' = .returned (.tuple #[.string s, .bool o]) := by
  rcases h with ⟨g1, h⟩ | ⟨g1, h⟩ <;> rcases h' with ⟨g2, h'⟩ | ⟨g2, h'⟩
  · exact h.same h'
  · rw [g1] at g2; cases g2
  · rw [g1] at g2; cases g2
  · exact h.same h'

theorem TellsN.form2 {g : Bool} {n m : Nat} {e : Ending} (h : TellsN g n m e) : ∃ (s : ByteArray) (o : Bool), e = .returned (.tuple #[.string s, .bool o]) := by
  obtain ⟨s, rfl, _, _⟩ := h
  exact ⟨s, _, rfl⟩
theorem run_row_nat {o : Oper} {a : Act} {w : World} (x : Operand) (ho : o.op = .load 40 x) (b : Nat) (hx : a.eval x = .pointer (some ⟨b, 0, none⟩)) (u : Int) (p : List Int) (hN : NatAt w b u p) (hl : p.length = 204) : (execOp a.eval o).run Tryd.prog w = .ok (.value (.agg (natC u p))) w := by
  unfold execOp
  simp only [ho, hx, Instr.loadAt, Instr.sureAddr, Sem.run_bind, Sem.run_pure, Result.andThen_ok, run_loadVar_row w b 40 40 (natC u p) (0, 0) _ hN Tryd.underlying40 rfl (nat_info u p hl)]
theorem run_plus2 {o : Oper} {a : Act} {w : World} (x y : Tmp) (ts : Array TypeId) (ho : o.op = .call { callee := .value (.func 25), args := #[.tmp x, .tmp y], argTypes := ts }) (vx vy : Value) (hx : a.eval (.tmp x) = vx) (hy : a.eval (.tmp y) = vy) : (execOp a.eval o).run Tryd.prog w = .ok (.enter 25 #[vx, vy]) w := by
  have hx' : a.tmps[x]?.getD undef = vx := by simpa [Act.eval] using hx
  have hy' : a.tmps[y]?.getD undef = vy := by simpa [Act.eval] using hy
  unfold execOp
  simp only [ho]
  go_simp

/-- One is added to a variable, in either order of the load and the first call. -/
theorem region_inc {id : Nat} {Q : Exit → Act → World → Prop} {a : Act} {w3 : World} {N : Nat} (ps : String) (B i : Nat) (r : List Int) (hR : Rep N i r) (hi : i ≤ 100) (hx : a.eval (.tmp 3) = .pointer (some ⟨B, 0, none⟩)) (hsz : 30 ≤ a.tmps.size) (hN : NatAt w3 B i r)
    (h : ∀ (c d : Nat) (t u : List Int) (w5 w6 : World), Rep (N + 1) d u → NatAt w6 B d u → Below w3.heap.size w3 w5 → w5.grownBy w6 (some B) → w6.heap.size = w5.heap.size →
      Q .normal (((a.put (some 22) (.agg (natC i r))).put (some 23) (.agg (natC c t))).put (some 24) (.agg (natC d u))) w6) :
    (Code.region id #[{ dst := some 22, op := Op.load 40 (Operand.tmp 3), type := 40, pos := ps, after := #[], guard := none }, { dst := some 23, op := Op.call { callee := Callee.value (Operand.func 38), args := #[Operand.const (Value.int IntKind.i64 1)], argTypes := #[3] }, type := 40, pos := ps, after := #[], guard := none }, { dst := some 24, op := Op.call { callee := Callee.value (Operand.func 25), args := #[Operand.tmp 22, Operand.tmp 23], argTypes := #[40, 40] }, type := 40, pos := ps, after := #[{ on := 0, ground := Ground.data }, { on := 1, ground := Ground.data }, { on := 1, ground := Ground.chain }], guard := none }, { dst := none, op := Op.store 40 (Operand.tmp 3) (Operand.tmp 24), type := 0, pos := ps, after := #[{ on := 2, ground := Ground.data }, { on := 2, ground := Ground.chain }, { on := 0, ground := Ground.phase }, { on := 1, ground := Ground.phase }, { on := 2, ground := Ground.phase }], guard := none }] true).wp Tryd.prog Q a w3 := by
  have hr := hR.len
  have lB := hN.lt
  refine held_begin (fun _ => True) (by kernel_rfl) ?_
  refine wpAnyH_ready (rs := [0, 1]) (by kernel_rfl) (by simp) ?_
  refine ready_val 0 (some 22) rfl rfl rfl (.agg (natC i r)) w3.drew (run_row_nat (.tmp 3) rfl B hx i r hN hr) trivial ?_ (ready_call 1 (some 23) rfl rfl rfl 38 #[.int .i64 1] (by go_simp) _ (natOf_any 1 1 w3.drew rfl (by omega) (by omega)) ?_ AllReadyH.nil)
  · refine held_call 1 (some 23) (by kernel_rfl) rfl rfl rfl 38 #[.int .i64 1] (by go_simp) _ (natOf_any 1 1 w3.drew rfl (by omega) (by omega)) ?_
    rintro e w4 ⟨c, t, rfl, hR4, hW4⟩
    have hW4 : Below w3.heap.size w3 w4 := ⟨hW4.os, hW4.tape, hW4.output, hW4.size, hW4.block⟩
    refine ⟨_, rfl, trivial, ?_⟩
    refine held_call 2 (some 24) (by kernel_rfl) rfl rfl rfl 25 #[.agg (natC i r), .agg (natC c t)] (run_plus2 22 23 _ rfl _ _ (by rw [put_ne _ _ _ _ (by decide), put_eq _ _ _ (by omega)]) (by rw [put_eq _ _ _ (by simp only [put_size]; omega)])) _ (plus_any w4 hR hR4 hi (hR4.fits.2 (one_lt' 600 (by decide)))) ?_
    rintro e w5 ⟨d, u, rfl, hR5, hW5⟩
    have hu := hR5.len
    have hW5' : Below w3.heap.size w3 w5 := hW4.trans (hW5.mono hW4.size)
    refine ⟨_, rfl, trivial, ?_⟩
    refine held_store 3 (by kernel_rfl) rfl rfl (.tmp 3) (.tmp 24) rfl rfl B d u (by rw [put_ne _ _ _ _ (by decide), put_ne _ _ _ _ (by decide), put_ne _ _ _ _ (by decide)]; exact hx) (by rw [put_eq _ _ _ (by simp only [put_size]; omega)]) i r (hN.below hW5' lB) hr hu ?_
    intro w6 hN6 hg6 hs6
    refine ⟨trivial, ?_⟩
    refine wpAnyH_done (by kernel_rfl) ?_ _
    refine NoPanic.normal ?_
    exact h c d t u w5 w6 hR5 hN6 hW5' hg6 hs6
  · rintro e w4 ⟨c, t, rfl, hR4, hW4⟩
    have hW4 : Below w3.heap.size w3 w4 := ⟨hW4.os, hW4.tape, hW4.output, hW4.size, hW4.block⟩
    refine ⟨_, rfl, trivial, ?_⟩
    refine held_load1 0 (some 22) (by kernel_rfl) rfl rfl rfl (.tmp 3) rfl B (by rw [put_ne _ _ _ _ (by decide)]; exact hx) i r (hN.below hW4 lB) hr trivial ?_
    refine held_call 2 (some 24) (by kernel_rfl) rfl rfl rfl 25 #[.agg (natC i r), .agg (natC c t)] (run_plus2 22 23 _ rfl _ _ (by rw [put_eq _ _ _ (by simp only [put_size]; omega)]) (by rw [put_ne _ _ _ _ (by decide), put_eq _ _ _ (by omega)])) _ (plus_any w4 hR hR4 hi (hR4.fits.2 (one_lt' 600 (by decide)))) ?_
    rintro e w5 ⟨d, u, rfl, hR5, hW5⟩
    have hu := hR5.len
    have hW5' : Below w3.heap.size w3 w5 := hW4.trans (hW5.mono hW4.size)
    refine ⟨_, rfl, trivial, ?_⟩
    refine held_store 3 (by kernel_rfl) rfl rfl (.tmp 3) (.tmp 24) rfl rfl B d u (by rw [put_ne _ _ _ _ (by decide), put_ne _ _ _ _ (by decide), put_ne _ _ _ _ (by decide)]; exact hx) (by rw [put_eq _ _ _ (by simp only [put_size]; omega)]) i r (hN.below hW5' lB) hr hu ?_
    intro w6 hN6 hg6 hs6
    refine ⟨trivial, ?_⟩
    refine wpAnyH_done (by kernel_rfl) ?_ _
    refine NoPanic.normal ?_
    have := h c d t u w5 w6 hR5 hN6 hW5' hg6 hs6
    rw [put_comm _ 22 23 _ _ (by decide)] at this
    exact this

set_option maxHeartbeats 1000000 in
set_option maxRecDepth 100000 in
theorem floor_any {n m k j : Nat} {p q : List Int} (g : Bool) (w : World) (hP : Rep n k p) (hQ : Rep m j q) (hk : k ≤ 100) (hj : 0 < j) :
    Calls Tryd.prog 76 #[.agg (numC g k p j q)] w fun e w' => ∃ (i : Nat) (r : List Int), e = .returned (.agg (wholeC g i r)) ∧ Rep (flo g n m) i r ∧ Below w.heap.size w w' := by
  have hz := zero_nat.1
  have hz1 := zero_whole.1
  have hp := hP.len
  have hq := hQ.len
  have A : NumAt ((w.alloc (.cells (numC g k p j q) 71)).alloc (.cells (wholeC false 0 zP) 69)) w.heap.size g k p j q := RowAt.old (NumAt.new w g k p j q) _
  have C : WholeAt ((w.alloc (.cells (numC g k p j q) 71)).alloc (.cells (wholeC false 0 zP) 69)) (w.heap.size + 1) false 0 zP := by
    have := WholeAt.new (w.alloc (.cells (numC g k p j q) 71)) false 0 zP
    simp only [World.size_alloc] at this; exact this
  have hB : Below w.heap.size w ((w.alloc (.cells (numC g k p j q) 71)).alloc (.cells (wholeC false 0 zP) 69)) := ((Below.refl _ _).alloc (Nat.le_refl _) _).alloc (by simp) _
  have HP := hide (And.intro hP hQ)
  clear hP hQ
  go_enter Tryd.func76, Tryd.ntmps76
  go_wp2_with (first | (refine load_mid_nat rfl _ rfl w.heap.size 1 rfl k p A.size hp ?_) | (refine load_mid_nat rfl _ rfl w.heap.size 206 rfl j q (A.bottom hp) hq ?_))
  refine (divide_any _ HP.out.1 HP.out.2 hj (by omega)).mono ?_
  rintro e w1 ⟨i, i', r, r', rfl, hR, hR', hW1⟩
  have hr := hR.len
  have hr' := hR'.len
  have hi : i ≤ 100 := by have := hR.cnt_le HP.out.1 (Nat.div_le_self _ _); omega
  have HR := hide (And.intro hR hR')
  have hs1 := hW1.size
  simp only [World.size_alloc] at hs1
  have A1 : NumAt w1 w.heap.size g k p j q := RowAt.below A hW1 (by simp; omega)
  have C1 : WholeAt w1 (w.heap.size + 1) false 0 zP := RowAt.below C hW1 (by simp)
  have hB1 : Below w.heap.size w w1 := hB.trans (hW1.mono (by simp; omega))
  have F1 := (NatAt.new w1 0 zP).old (.cells (natC 0 zP) 40)
  have F2 := NatAt.new (w1.alloc (.cells (natC 0 zP) 40)) 0 zP
  simp only [World.size_alloc] at F2
  clear A C hB hW1 hR hR'
  by_cases hup : g = true ∧ i' ≠ 0
  · obtain ⟨hg1, hi'⟩ := hup
    have hi'' : (0 : Int) < (i' : Int) := by omega
    subst hg1
    have HF : Hid (flo true n m = n / m + 1) := by
      have : n % m ≠ 0 := fun e => hi' (HR.out.2.zero_iff.2 e)
      unfold Hid flo; rw [decide_eq_true this]; rfl
    go_wp2_with (first | (refine store_nat rfl _ _ rfl rfl w1.heap.size i r rfl rfl 0 zP F1 zP_len hr ?_; intro w2 hN2 hg2 hs2) | (refine store_nat rfl _ _ rfl rfl (w1.heap.size + 1) i' r' rfl rfl 0 zP (F2.grown hg2 (by simp)) zP_len hr' ?_; intro w3 hN3 hg3 hs3; have c3 := hN3.c0; have A3 : NumAt w3 w.heap.size true k p j q := RowAt.grown (RowAt.grown (RowAt.old (RowAt.old A1 (.cells (natC 0 zP) 40)) (.cells (natC 0 zP) 40)) hg2 (by simp; omega)) hg3 (by simp; omega); have n3 := A3.neg))
    have hs3' : w3.heap.size = w1.heap.size + 1 + 1 := by rw [hs3, hs2]; simp
    have hN23 := hN2.grown hg3 (by simp)
    have C3 : WholeAt w3 (w.heap.size + 1) false 0 zP := RowAt.grown (RowAt.grown (RowAt.old (RowAt.old C1 (.cells (natC 0 zP) 40)) (.cells (natC 0 zP) 40)) hg2 (by simp; omega)) hg3 (by simp; omega)
    have hB3 : Below w.heap.size w w3 := (((hB1.alloc (by omega) _).alloc (by simp; omega) _).grown hg2 (by simp; omega) (by intro k hk; cases hk; omega)).grown hg3 (by rw [hs2]; simp; omega) (by intro k hk; cases hk; omega)
    clear A1 C1 hB1 F1 F2 hN2 hg2 hs2 hg3 hs3 c3 n3 hi' hi''
    refine region_inc "l2_num.go:310" w1.heap.size i r HR.out.1 hi rfl (by simp) hN23 ?_
    intro c d t u w5 w6 hR6 hN6 hW5 hg6 hs6
    have hu := hR6.len
    have hs5 := hW5.size
    have A6 : NumAt w6 w.heap.size true k p j q := RowAt.grown (RowAt.below A3 hW5 (by omega)) hg6 (by simp; omega)
    have C6 : WholeAt w6 (w.heap.size + 1) false 0 zP := RowAt.grown (RowAt.below C3 hW5 (by omega)) hg6 (by simp; omega)
    have hB6 : Below w.heap.size w w6 := (hB3.trans (hW5.mono hB3.size)).grown hg6 (by have := hB3.size; omega) (by intro k hk; cases hk; omega)
    have HR6 := hide hR6
    have n6 := A6.neg
    clear hN3 hN23 A3 C3 hB3 hW5 hg6 hR6
    simp only [Act.put, List.setIfInBounds_toArray, List.set_cons_zero, List.set_cons_succ]
    go_wp2_with (first | (refine load_nat rfl _ rfl w1.heap.size rfl d u hN6 hu ?_) | (refine build_whole rfl _ _ rfl _ rfl true d u hu rfl rfl ?_) | (refine store_whole rfl _ _ rfl rfl (w.heap.size + 1) true d u rfl rfl false 0 zP C6 zP_len hu ?_; intro w7 hN7 hg7 hs7))
    refine bodyPost_ret (v := .agg (wholeC true d u)) (res_whole Tryd.results76 _ _ (w.heap.size + 1) _ _ _ rfl hN7 hu) rfl ⟨d, u, rfl, by rw [HF.out]; exact HR6.out, ?_⟩
    exact hB6.grown hg7 (by have := hB6.size; omega) (by intro k hk; cases hk; omega)
  · have hup' : g = false ∨ i' = 0 := by
      cases g with
      | false => exact .inl rfl
      | true => exact .inr (by by_cases h : i' = 0; exact h; exact absurd ⟨rfl, h⟩ hup)
    have HF : Hid (flo g n m = n / m) := by
      unfold Hid flo
      rcases hup' with h | h
      · rw [h]; rfl
      · rw [HR.out.2.zero_iff.1 h]; simp
    clear hup
    rcases hup' with h | h
    · subst h
      go_wp2_with (first | (refine store_nat rfl _ _ rfl rfl w1.heap.size i r rfl rfl 0 zP F1 zP_len hr ?_; intro w2 hN2 hg2 hs2) | (refine store_nat rfl _ _ rfl rfl (w1.heap.size + 1) _ r' rfl rfl 0 zP (F2.grown hg2 (by simp)) zP_len hr' ?_; intro w3 hN3 hg3 hs3; have c3 := hN3.c0; have A3 : NumAt w3 w.heap.size false k p j q := RowAt.grown (RowAt.grown (RowAt.old (RowAt.old A1 (.cells (natC 0 zP) 40)) (.cells (natC 0 zP) 40)) hg2 (by simp; omega)) hg3 (by simp; omega); have n3 := A3.neg) | (refine load_nat rfl _ rfl w1.heap.size rfl i r (hN2.grown hg3 (by simp)) hr ?_) | (refine build_whole rfl _ _ rfl _ rfl false i r hr rfl rfl ?_) | (refine store_whole rfl _ _ rfl rfl (w.heap.size + 1) false i r rfl rfl false 0 zP (RowAt.grown (RowAt.grown (RowAt.old (RowAt.old C1 (.cells (natC 0 zP) 40)) (.cells (natC 0 zP) 40)) hg2 (by simp; omega)) hg3 (by simp; omega)) zP_len hr ?_; intro w6 hN6 hg6 hs6))
      have hB3 : Below w.heap.size w w3 := (((hB1.alloc (by omega) _).alloc (by simp; omega) _).grown hg2 (by simp; omega) (by intro k hk; cases hk; omega)).grown hg3 (by rw [hs2]; simp; omega) (by intro k hk; cases hk; omega)
      refine bodyPost_ret (v := .agg (wholeC false i r)) (res_whole Tryd.results76 _ _ (w.heap.size + 1) _ _ _ rfl hN6 hr) rfl ⟨i, r, rfl, by rw [HF.out]; exact HR.out.1, ?_⟩
      exact hB3.grown hg6 (by rw [hs3, hs2]; simp; omega) (by intro k hk; cases hk; omega)
    · cases g with
      | false =>
        go_wp2_with (first | (refine store_nat rfl _ _ rfl rfl w1.heap.size i r rfl rfl 0 zP F1 zP_len hr ?_; intro w2 hN2 hg2 hs2) | (refine store_nat rfl _ _ rfl rfl (w1.heap.size + 1) _ r' rfl rfl 0 zP (F2.grown hg2 (by simp)) zP_len hr' ?_; intro w3 hN3 hg3 hs3; have c3 := hN3.c0; have A3 : NumAt w3 w.heap.size false k p j q := RowAt.grown (RowAt.grown (RowAt.old (RowAt.old A1 (.cells (natC 0 zP) 40)) (.cells (natC 0 zP) 40)) hg2 (by simp; omega)) hg3 (by simp; omega); have n3 := A3.neg) | (refine load_nat rfl _ rfl w1.heap.size rfl i r (hN2.grown hg3 (by simp)) hr ?_) | (refine build_whole rfl _ _ rfl _ rfl false i r hr rfl rfl ?_) | (refine store_whole rfl _ _ rfl rfl (w.heap.size + 1) false i r rfl rfl false 0 zP (RowAt.grown (RowAt.grown (RowAt.old (RowAt.old C1 (.cells (natC 0 zP) 40)) (.cells (natC 0 zP) 40)) hg2 (by simp; omega)) hg3 (by simp; omega)) zP_len hr ?_; intro w6 hN6 hg6 hs6))
        have hB3 : Below w.heap.size w w3 := (((hB1.alloc (by omega) _).alloc (by simp; omega) _).grown hg2 (by simp; omega) (by intro k hk; cases hk; omega)).grown hg3 (by rw [hs2]; simp; omega) (by intro k hk; cases hk; omega)
        refine bodyPost_ret (v := .agg (wholeC false i r)) (res_whole Tryd.results76 _ _ (w.heap.size + 1) _ _ _ rfl hN6 hr) rfl ⟨i, r, rfl, by rw [HF.out]; exact HR.out.1, ?_⟩
        exact hB3.grown hg6 (by rw [hs3, hs2]; simp; omega) (by intro k hk; cases hk; omega)
      | true =>
        have hi0 : ¬ (0 : Int) < (i' : Int) := by omega
        subst h
        go_wp2_with (first | (refine store_nat rfl _ _ rfl rfl w1.heap.size i r rfl rfl 0 zP F1 zP_len hr ?_; intro w2 hN2 hg2 hs2) | (refine store_nat rfl _ _ rfl rfl (w1.heap.size + 1) _ r' rfl rfl 0 zP (F2.grown hg2 (by simp)) zP_len hr' ?_; intro w3 hN3 hg3 hs3; have c3 := hN3.c0; have A3 : NumAt w3 w.heap.size true k p j q := RowAt.grown (RowAt.grown (RowAt.old (RowAt.old A1 (.cells (natC 0 zP) 40)) (.cells (natC 0 zP) 40)) hg2 (by simp; omega)) hg3 (by simp; omega); have n3 := A3.neg) | (refine load_nat rfl _ rfl w1.heap.size rfl i r (hN2.grown hg3 (by simp)) hr ?_) | (refine build_whole rfl _ _ rfl _ rfl true i r hr rfl rfl ?_) | (refine store_whole rfl _ _ rfl rfl (w.heap.size + 1) true i r rfl rfl false 0 zP (RowAt.grown (RowAt.grown (RowAt.old (RowAt.old C1 (.cells (natC 0 zP) 40)) (.cells (natC 0 zP) 40)) hg2 (by simp; omega)) hg3 (by simp; omega)) zP_len hr ?_; intro w6 hN6 hg6 hs6))
        have hB3 : Below w.heap.size w w3 := (((hB1.alloc (by omega) _).alloc (by simp; omega) _).grown hg2 (by simp; omega) (by intro k hk; cases hk; omega)).grown hg3 (by rw [hs2]; simp; omega) (by intro k hk; cases hk; omega)
        refine bodyPost_ret (v := .agg (wholeC true i r)) (res_whole Tryd.results76 _ _ (w.heap.size + 1) _ _ _ rfl hN6 hr) rfl ⟨i, r, rfl, by rw [HF.out]; exact HR.out.1, ?_⟩
        exact hB3.grown hg6 (by rw [hs3, hs2]; simp; omega) (by intro k hk; cases hk; omega)

end Go.Proofs.YthbnacikomimfaaDoor
