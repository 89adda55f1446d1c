/-
  The texts SpecReadNum, RdCore, ImplReadNum, Floor, one behind the other.
-/
import Derived.Test.YtkmjpebfaodfaaaDoorPkCutNum
import Derived.Test.YtkmjpebfaodfaaaDoorPkSpecParts
import Derived.Test.YtkmjpebfaodfaaaDoorPkSpecSub
import Derived.Test.YtkmjpebfaodfaaaDoorPkImplMake
import Derived.Deep.CutBlock
import Derived.Deep.DeepCutAuto
import Derived.Test.YtkmjpebfaodfaaaDoorPkMinus
import Derived.Deep.QuietTactic
import Derived.BigQuiet
import Derived.Test.YtkmjpebfaodfaaaDoorPkImplDigits
import Derived.Test.YtkmjpebfaodfaaaDoorPkSpecAdd
import Derived.Test.YtkmjpebfaodfaaaDoorPkReadNumA

/-
  What spec.l2Cut, spec.l2Read and spec.ReadNum answer.
-/
namespace Go.Proofs.YtkmjpebfaodfaaaDoor
open Go.RowKit
set_option linter.unusedVariables false

set_option maxHeartbeats 1000000 in
set_option maxRecDepth 100000 in
theorem l2Cut_any (s : ByteArray) (w : World) (hs : s.size ≤ maxLen) :
    Calls Tryd.prog 24 #[.string s, .int .u8 47] w fun e w' => (∃ t u : ByteArray, e = .returned (.tuple #[.string t, .string u, .bool (cut47 s.data.toList).2.2]) ∧ t.data.toList = (cut47 s.data.toList).1 ∧ u.data.toList = (cut47 s.data.toList).2.1) ∧ Below w.heap.size w w' := by
  unfold maxLen at hs
  have hs' : (s.size : Int) ≤ 9223372036854775807 := by omega
  go_enter Tryd.func24, Tryd.ntmps24
  go_wp2_with fail
  go_loopg [7] s.size (fun g i wr => ∃ k : Nat, g = s.size - k ∧ k ≤ s.size ∧ i = .int .i64 (k : Int) ∧ Hid (∀ j, j < k → s.data.toList[j]? ≠ some 47) ∧ wr = w)
  case atStart => exact ⟨0, rfl, Nat.zero_le _, rfl, fun j hj => by omega, rfl⟩
  case round =>
    obtain ⟨k, hg, hk, rfl, HK, rfl⟩ := hrel
    by_cases hlt : k < s.size
    · have hlt' : (k : Int) < (s.size : Int) := by omega
      by_cases h47 : s[k] = 47
      · have h47' : (s[k].toNat : Int) = 47 := by rw [h47]; rfl
        have hc := cut47_some s.data.toList k (by rw [getN k hlt, h47]) HK.out
        obtain ⟨k1, hk1⟩ : ∃ k1, k1 = k + 1 := ⟨_, rfl⟩
        have hwk : IntKind.i64.wrap ((k : Int) + 1) = (k1 : Int) := by rw [IntKind.wrap_i64]; omega
        have hk1' : (k1 : Int) ≤ (s.size : Int) := by omega
        have hk' : (k : Int) ≤ (s.size : Int) := by omega
        have HC : Hid ((s.extract 0 k).data.toList = (cut47 s.data.toList).1 ∧ (s.extract k1 s.size).data.toList = (cut47 s.data.toList).2.1 ∧ (cut47 s.data.toList).2.2 = true) := by
          unfold Hid
          rw [hc, ext_head, ext_tail, hk1]; exact ⟨rfl, rfl, rfl⟩
        clear hc hk1 h47
        go_wp2_with fail
        refine held_begin0 (by kernel_rfl) ?_
        refine held_val0 0 (some 19) rfl rfl (by kernel_rfl) (by kernel_rfl) (by kernel_rfl) rfl (.string s) (fun _ => rfl) ?_
        simp only [Act.put, List.setIfInBounds_toArray, List.set_cons_zero, List.set_cons_succ]
        refine held_val0 1 (some 20) rfl rfl (by kernel_rfl) (by kernel_rfl) (by kernel_rfl) rfl (.int .i64 (k : Int)) (fun _ => rfl) ?_
        simp only [Act.put, List.setIfInBounds_toArray, List.set_cons_zero, List.set_cons_succ]
        refine held_val0 2 (some 21) rfl rfl (by kernel_rfl) (by kernel_rfl) (by kernel_rfl) rfl (.string (s.extract 0 k)) (fun _ => by go_simp) ?_
        simp only [Act.put, List.setIfInBounds_toArray, List.set_cons_zero, List.set_cons_succ]
        refine held_val0 3 (some 22) rfl rfl (by kernel_rfl) (by kernel_rfl) (by kernel_rfl) rfl (.string s) (fun _ => rfl) ?_
        simp only [Act.put, List.setIfInBounds_toArray, List.set_cons_zero, List.set_cons_succ]
        refine held_val0 4 (some 23) rfl rfl (by kernel_rfl) (by kernel_rfl) (by kernel_rfl) rfl (.int .i64 (k : Int)) (fun _ => rfl) ?_
        simp only [Act.put, List.setIfInBounds_toArray, List.set_cons_zero, List.set_cons_succ]
        refine held_val0 5 (some 24) rfl rfl (by kernel_rfl) (by kernel_rfl) (by kernel_rfl) rfl (.int .i64 (k1 : Int)) (fun _ => by go_simp) ?_
        simp only [Act.put, List.setIfInBounds_toArray, List.set_cons_zero, List.set_cons_succ]
        refine held_val0 6 (some 25) rfl rfl (by kernel_rfl) (by kernel_rfl) (by kernel_rfl) rfl (.string (s.extract k1 s.size)) (fun _ => by go_simp) ?_
        simp only [Act.put, List.setIfInBounds_toArray, List.set_cons_zero, List.set_cons_succ]
        refine held_assign0 7 (some 4) (by kernel_rfl) rfl rfl _ rfl rfl (.string (s.extract 0 k)) rfl ?_
        simp only [Act.put, List.setIfInBounds_toArray, List.set_cons_zero, List.set_cons_succ]
        refine held_assign0 8 (some 5) (by kernel_rfl) rfl rfl _ rfl rfl (.string (s.extract k1 s.size)) rfl ?_
        simp only [Act.put, List.setIfInBounds_toArray, List.set_cons_zero, List.set_cons_succ]
        refine held_assign0 9 (some 6) (by kernel_rfl) rfl rfl _ rfl rfl (.bool true) rfl ?_
        simp only [Act.put, List.setIfInBounds_toArray, List.set_cons_zero, List.set_cons_succ]
        refine wpAnyH_done (by kernel_rfl) ?_ _
        refine NoPanic.normal ?_
        go_wp2
        (try simp only [Exit.inBlock, Exit.then]); refine bodyPost_ret (results_tmp3 rfl _ _ _) rfl ?_
        exact ⟨⟨_, _, by rw [HC.out.2.2]; rfl, HC.out.1, HC.out.2.1⟩, (Below.refl _ _).drew⟩
      · have h47' : ((s[k].toNat : Int) == 47) = false := by
          rw [beq_eq_false_iff_ne]
          intro e; apply h47; exact UInt8.toNat_inj.1 (by simpa using (by omega : s[k].toNat = 47))
        have HK2 : Hid (∀ j, j < k + 1 → s.data.toList[j]? ≠ some 47) := by
          intro j hj
          by_cases e : j = k
          · subst e; rw [getN j hlt]; intro h; exact h47 (by injection h)
          · exact HK.out j (by omega)
        clear h47
        go_wp2
        go_roundg (s.size - (k + 1))
        case measure => omega
        case rel => exact ⟨k + 1, rfl, by omega, by go_num, HK2, rfl⟩
    · have hc := cut47_none s.data.toList (fun j => by
        by_cases hj : j < s.size
        · exact HK.out j (by omega)
        · rw [List.getElem?_eq_none (by simp; omega)]; simp)
      have HA : Hid (s.data.toList = (cut47 s.data.toList).1 ∧ (⟨#[]⟩ : ByteArray).data.toList = (cut47 s.data.toList).2.1 ∧ (cut47 s.data.toList).2.2 = false) := by
        unfold Hid; rw [hc]; exact ⟨rfl, rfl, rfl⟩
      clear hc
      have hlt' : ¬ (k : Int) < (s.size : Int) := by omega
      go_wp2
      go_ret3
      exact ⟨⟨_, _, by rw [HA.out.2.2]; rfl, HA.out.1, HA.out.2.1⟩, Below.refl _ _⟩

/-- What ReadNum should answer. -/
def ReadAns (s : ByteArray) (e : Ending) : Prop :=
  (rdOkN s.data.toList = true ∧ TellsN (rdNeg s.data.toList && decide (rval (rdRad s.data.toList) (rdTop s.data.toList) ≠ 0)) (rval (rdRad s.data.toList) (rdTop s.data.toList) / Nat.gcd (rval (rdRad s.data.toList) (rdTop s.data.toList)) (rval (rdRad s.data.toList) (rdBot s.data.toList))) (rval (rdRad s.data.toList) (rdBot s.data.toList) / Nat.gcd (rval (rdRad s.data.toList) (rdTop s.data.toList)) (rval (rdRad s.data.toList) (rdBot s.data.toList))) e) ∨ (rdOkN s.data.toList = false ∧ Mute e)
theorem ReadAns.same {s : ByteArray} {e e' : Ending} (h : ReadAns s e) (h' : ReadAns s e') : ∃ (t : ByteArray) (o : Bool), e = .returned (.tuple #[.string t, .bool o]) ∧ e' = .returned (.tuple #[.string t, .bool o]) := by
  rcases h with ⟨g1, h⟩ | ⟨g1, h⟩ <;> rcases h' with ⟨g2, h'⟩ | ⟨g2, h'⟩
  · exact h.same h'
  · rw [g1] at g2; cases g2
  · rw [g1] at g2; cases g2
  · exact h.same h'

theorem byte_ne {c : UInt8} {n : Nat} (hn : n < 256) (h : c ≠ UInt8.ofNat n) : ((c.toNat : Int) == (n : Int)) = false := by
  rw [beq_eq_false_iff_ne]
  intro e
  apply h
  have : c.toNat = n := by omega
  rw [← this]; simp
theorem radN_of {s : ByteArray} (h : 1 < s.size) : radN s.data.toList = if s[0] = 35 then (letR s[1], s.data.toList.drop 2) else (10, s.data.toList) := by
  have h0 := getN 0 (t := s) (by omega)
  have h1 := getN 1 (t := s) (by omega)
  generalize s.data.toList = l at h0 h1 ⊢
  match l, h0, h1 with
  | a :: c :: t, h0, h1 =>
    simp at h0 h1
    subst h0 h1
    rfl
theorem sigN_of {s : ByteArray} (h : 0 < s.size) : sigN s.data.toList = if s[0] = 45 then (true, s.data.toList.drop 1) else if s[0] = 43 then (false, s.data.toList.drop 1) else (false, s.data.toList) := by
  have h0 := getN 0 (t := s) (by omega)
  generalize s.data.toList = l at h0 ⊢
  match l, h0 with
  | a :: t, h0 =>
    simp at h0
    subst h0
    rfl
theorem sigN_none {s : ByteArray} (h : ¬ 0 < s.size) : sigN s.data.toList = (false, s.data.toList) := by
  have h1 : s.data.toList.length = s.size := by simp
  have : s.data.toList = [] := List.length_eq_zero_iff.1 (by omega)
  rw [this]; rfl

theorem rdDig_eq {b : Nat} {o : ByteArray} (h : o.size ≤ 600) : rdDig b o.data.toList = (decide (0 < o.size) && rdigs b o.data.toList) := by
  have hl : o.data.toList.length = o.size := by simp
  unfold rdDig
  rw [hl, decide_eq_true h, Bool.and_true]
theorem rdDig_long {b : Nat} {o : ByteArray} (h : ¬ o.size ≤ 600) : rdDig b o.data.toList = false := by
  have hl : o.data.toList.length = o.size := by simp
  unfold rdDig
  rw [hl, decide_eq_false h]; simp
theorem rdDig_digs {b : Nat} {l : List UInt8} (h : rdDig b l = true) : rdigs b l = true := by
  unfold rdDig at h
  simp only [Bool.and_eq_true] at h
  exact h.2
theorem rad_pow {b k : Nat} (hb : b ≤ 16) : b ^ k ≤ 10 ^ (2 * k) := by
  rw [Nat.pow_mul]
  exact Nat.pow_le_pow_left (by omega) k
theorem rad_sizeK (K : Nat) (hK : 1 ≤ K) {b : Nat} {o t : ByteArray} (hb : b ≤ 16) (ho : o.size ≤ K) (hd : rdigs b o.data.toList = true) (hc : canonB t.data.toList = true) (hv : dval t.data.toList = rval b o.data.toList) : t.size ≤ 2 * K := by
  have hl : o.data.toList.length = o.size := by simp
  have h1 := rval_lt b o.data.toList hd
  rw [hl, ← hv] at h1
  have h2 : 10 ^ (2 * o.size) ≤ 10 ^ (2 * K) := Nat.pow_le_pow_right (by decide) (by omega)
  have h3 := Nat.lt_of_lt_of_le h1 (Nat.le_trans (rad_pow hb) h2)
  have h4 := (canon_len_le hc (2 * K) (by omega)).2 h3
  simpa using h4
theorem rad_size {b : Nat} {o t : ByteArray} (hb : b ≤ 16) (ho : o.size ≤ 600) (hd : rdigs b o.data.toList = true) (hc : canonB t.data.toList = true) (hv : dval t.data.toList = rval b o.data.toList) : t.size ≤ 1200 := rad_sizeK 600 (by decide) hb ho hd hc hv
theorem TellsN.form3 {g : Bool} {n m : Nat} {e : Ending} (h : TellsN g n m e) : ∃ (s : ByteArray) (o : Bool), e = .returned (.tuple #[.string s, .bool o]) := by
  obtain ⟨s, rfl, _, _⟩ := h
  exact ⟨s, _, rfl⟩

/-- Whether a radix's sign stands at the front. -/
def hsh (s : ByteArray) : Bool := decide (1 < s.size) && s.data.toList.head? == some 35
theorem hsh_of {s : ByteArray} (h : 1 < s.size) : hsh s = (s[0] == 35) := by
  unfold hsh
  rw [decide_eq_true h, List.head?_eq_getElem?, getN 0 (by omega)]; rfl
theorem hsh_no {s : ByteArray} (h : hsh s = false) : radN s.data.toList = (10, s.data.toList) := by
  by_cases h1 : 1 < s.size
  · rw [hsh_of h1] at h
    rw [radN_of h1, if_neg (by simpa using h)]
  · exact radN_short (by have : s.data.toList.length = s.size := by simp
                         omega)
theorem hsh_yes {s : ByteArray} (h : hsh s = true) : 1 < s.size ∧ radN s.data.toList = (letR (s.data.toList.getD 1 0), s.data.toList.drop 2) := by
  have h1 : 1 < s.size := by unfold hsh at h; simp at h; omega
  rw [hsh_of h1] at h
  refine ⟨h1, ?_⟩
  rw [radN_of h1, if_pos (by simpa using h)]
  simp [List.getD, getN 1 h1]

/-- Whether a sign stands at the front. -/
def sgd (s : ByteArray) : Bool := decide (0 < s.size) && (s.data.toList.head? == some 43 || s.data.toList.head? == some 45)
theorem sgd_of {s : ByteArray} (h : 0 < s.size) : sgd s = (s[0] == 43 || s[0] == 45) := by
  unfold sgd
  rw [decide_eq_true h, List.head?_eq_getElem?, getN 0 h]; rfl
theorem sgd_no {s : ByteArray} (h : sgd s = false) : sigN s.data.toList = (false, s.data.toList) := by
  by_cases h1 : 0 < s.size
  · rw [sgd_of h1] at h
    simp at h
    rw [sigN_of h1, if_neg h.2, if_neg h.1]
  · exact sigN_none h1
theorem sgd_yes {s : ByteArray} (h : sgd s = true) : ∃ h0 : 0 < s.size, sigN s.data.toList = (s[0] == 45, s.data.toList.drop 1) := by
  have h1 : 0 < s.size := by
    by_cases h0 : 0 < s.size
    · exact h0
    · unfold sgd at h; rw [decide_eq_false h0] at h; cases h
  refine ⟨h1, ?_⟩
  rw [sgd_of h1] at h
  rw [sigN_of h1]
  by_cases h45 : s[0] = 45
  · rw [if_pos h45, h45]; rfl
  · rw [if_neg h45]
    have h43 : s[0] = 43 := by simp [h45] at h; exact h
    rw [if_pos h43, h43]; rfl

end Go.Proofs.YtkmjpebfaodfaaaDoor

/-
  What impl.ReadNum reads behind the radix's sign: plain facts, and what cutRadix and cutSign of impl answer.
-/
namespace Go.Proofs.YtkmjpebfaodfaaaDoor
open Go.RowKit
set_option linter.unusedVariables false

def coTop (l : List UInt8) : List UInt8 := (cut47 (sigN l).2).1
def coUnd (l : List UInt8) : List UInt8 := (cut47 (sigN l).2).2.1
def coBrk (l : List UInt8) : Bool := (cut47 (sigN l).2).2.2
def coBot (l : List UInt8) : List UInt8 := if coBrk l then coUnd l else [49]
def coOk (b : Nat) (l : List UInt8) : Bool := (rdDig b (coTop l) && rdDig b (coBot l)) && decide (rval b (coBot l) ≠ 0)
/-- The radix and what stands behind its sign; where a # is none, the text as it is, which no digits are. -/
def RadCut (l : List UInt8) (b : Nat) (t : List UInt8) : Prop := radN l = (b, t) ∨ (b = 10 ∧ t = l ∧ l.head? = some 35 ∧ rdRad l = 0)

theorem coOk_of {l t : List UInt8} {b : Nat} (h : RadCut l b t) (hb : b ≠ 0) : rdOkN l = coOk b t := by
  rcases h with h | ⟨rfl, rfl, h1, h2⟩
  · unfold rdOkN coOk rdTop rdBot rdRad coTop coBot coUnd coBrk
    rw [h]
    simp [hb]
  · have e1 : rdOkN t = false := by unfold rdOkN; rw [h2]; rfl
    rw [e1]
    obtain ⟨m, rfl⟩ : ∃ m, t = 35 :: m := by
      cases t with
      | nil => cases h1
      | cons c m => simp at h1; exact ⟨m, by rw [h1]⟩
    have e2 : coTop (35 :: m) = 35 :: (cut47 m).1 := rfl
    have e3 : rdigs 10 (35 :: (cut47 m).1) = false := by
      unfold rdigs
      rw [List.all_cons]
      have : decide (dg 35 < 10) = false := by decide
      rw [this]; rfl
    unfold coOk rdDig
    rw [e2, e3]; simp

theorem ReadAns.mk' {s t : ByteArray} {b : Nat} (h : RadCut s.data.toList b t.data.toList) (hb : b ≠ 0) {e : Ending}
    (he : (coOk b t.data.toList = true ∧ TellsN ((sigN t.data.toList).1 && decide (rval b (coTop t.data.toList) ≠ 0)) (rval b (coTop t.data.toList) / Nat.gcd (rval b (coTop t.data.toList)) (rval b (coBot t.data.toList))) (rval b (coBot t.data.toList) / Nat.gcd (rval b (coTop t.data.toList)) (rval b (coBot t.data.toList))) e) ∨ (coOk b t.data.toList = false ∧ Mute e)) : ReadAns s e := by
  rcases he with ⟨ho, he⟩ | ⟨ho, he⟩
  · refine .inl ⟨by rw [coOk_of h hb]; exact ho, ?_⟩
    rcases h with h | ⟨rfl, h0, h1, h2⟩
    · unfold rdNeg rdTop rdBot rdRad
      rw [h]
      exact he
    · have := coOk_of (.inr ⟨rfl, h0, h1, h2⟩ : RadCut s.data.toList 10 t.data.toList) hb
      rw [ho] at this
      unfold rdOkN at this
      rw [h2] at this
      cases this
  · exact .inr ⟨by rw [coOk_of h hb]; exact ho, he⟩

theorem below_drewN {B : Nat} {a w : World} (h : Below B a w) (n : Nat) : Below B a (w.drewN n) := ⟨h.os, h.tape, h.output, h.size, h.block⟩
theorem ten_le {n : Nat} (a b : Nat) (hab : a ≤ b) (h : n < 10 ^ a) : n < 10 ^ b := Nat.lt_of_lt_of_le h (Nat.pow_le_pow_right (by decide) hab)
theorem rdOk_dig {b : Nat} {o : ByteArray} (hb : b ≤ 16) (h : o.size ≤ 600) : rdOk b o = rdDig b o.data.toList := by
  rw [rdDig_eq h]
  unfold rdOk
  rw [decide_eq_true (show o.size ≤ 2000 by omega), Bool.and_true]
  cases hd : rdigs b o.data.toList with
  | false => rw [Bool.false_and, Bool.and_false, Bool.and_false]
  | true =>
    have hl : o.data.toList.length = o.size := by simp
    have h1 := rval_lt b o.data.toList hd
    rw [hl] at h1
    have h3 : rval b o.data.toList < 10 ^ 1200 := ten_le (2 * o.size) 1200 (by omega) (Nat.lt_of_lt_of_le h1 (rad_pow hb))
    rw [decide_eq_true h3]
    by_cases h0 : 0 < o.size
    · rw [decide_eq_true h0, decide_eq_true (show 1 ≤ o.size by omega)]; rfl
    · rw [decide_eq_false h0, decide_eq_false (show ¬ 1 ≤ o.size by omega)]; rfl

end Go.Proofs.YtkmjpebfaodfaaaDoor

/-
  What impl.ReadNum answers.
-/
namespace Go.Proofs.YtkmjpebfaodfaaaDoor
open Go.RowKit
set_option linter.unusedVariables false

theorem len_le {s : ByteArray} {n : Nat} (h : s.data.toList.length ≤ n) : s.size ≤ n := by simpa using h

end Go.Proofs.YtkmjpebfaodfaaaDoor

/-
  What floor of impl, impl.FloorNum and spec.FloorNum answer.
-/
namespace Go.Proofs.YtkmjpebfaodfaaaDoor
open Go.RowKit
set_option linter.unusedVariables false

theorem okN_bot {l : List UInt8} (h : okN l = true) : botN l ≠ 0 := by
  unfold okN at h
  unfold botN
  cases hb : brokenN l with
  | false => simp
  | true =>
    rw [hb] at h
    simp only [Bool.and_eq_true, Bool.not_true, Bool.false_or, decide_eq_true_eq] at h
    rw [if_pos rfl]
    exact h.2.2.1
theorem okN_neg {l : List UInt8} (h : okN l = true) (hn : negN l = true) : topN l ≠ 0 := by
  unfold okN at h
  unfold topN
  rw [hn] at h
  simp only [Bool.and_eq_true, Bool.true_and, Bool.not_eq_true', decide_eq_false_iff_not] at h
  exact h.1.2
theorem okN_lt {l : List UInt8} (h : okN l = true) : topN l < 10 ^ 600 := by
  unfold okN at h
  simp only [Bool.and_eq_true] at h
  exact good_lt' h.1.1

/-- The floor's size. -/
def flo (g : Bool) (n m : Nat) : Nat := n / m + if g && decide (n % m ≠ 0) then 1 else 0
theorem flo_le {g : Bool} {n m : Nat} (hg : g = true → n ≠ 0) : flo g n m ≤ n := by
  unfold flo
  cases g with
  | false => simp; exact Nat.div_le_self _ _
  | true =>
    by_cases h : n % m = 0
    · rw [decide_eq_false (by simp [h])]; simp; exact Nat.div_le_self _ _
    · rw [decide_eq_true h]
      have hm : m ≠ 1 := fun e => h (by rw [e]; exact Nat.mod_one _)
      by_cases h0 : m = 0
      · subst h0; simp; have := hg rfl; omega
      · have := Nat.div_lt_self (Nat.pos_of_ne_zero (hg rfl)) (show 1 < m by omega)
        exact this
theorem flo_ne {n m : Nat} (hm : m ≠ 0) (hn : n ≠ 0) : flo true n m ≠ 0 := by
  unfold flo
  by_cases h : n % m = 0
  · rw [decide_eq_false (by simp [h])]
    have := Nat.div_pos (Nat.le_of_dvd (Nat.pos_of_ne_zero hn) (Nat.dvd_of_mod_eq_zero h)) (Nat.pos_of_ne_zero hm)
    exact Nat.ne_of_gt this
  · rw [decide_eq_true h]; simp

def FloorAns (a : ByteArray) (e : Ending) : Prop :=
  (okN a.data.toList = true ∧ TellsN (negN a.data.toList) (flo (negN a.data.toList) (topN a.data.toList) (botN a.data.toList)) 1 e) ∨ (okN a.data.toList = false ∧ Mute e)
theorem FloorAns.same {a : ByteArray} {e e' : Ending} (h : FloorAns a e) (h' : FloorAns a e') : ∃ (s : ByteArray) (o : Bool), e = .returned (.tuple #[.string s, .bool o]) ∧ e' = .returned (.tuple #[.string s, .bool o]) := by
  rcases h with ⟨g1, h⟩ | ⟨g1, h⟩ <;> rcases h' with ⟨g2, h'⟩ | ⟨g2, h'⟩
  · exact h.same h'
  · rw [g1] at g2; cases g2
  · rw [g1] at g2; cases g2
  · exact h.same h'

theorem TellsN.form2 {g : Bool} {n m : Nat} {e : Ending} (h : TellsN g n m e) : ∃ (s : ByteArray) (o : Bool), e = .returned (.tuple #[.string s, .bool o]) := by
  obtain ⟨s, rfl, _, _⟩ := h
  exact ⟨s, _, rfl⟩
end Go.Proofs.YtkmjpebfaodfaaaDoor
