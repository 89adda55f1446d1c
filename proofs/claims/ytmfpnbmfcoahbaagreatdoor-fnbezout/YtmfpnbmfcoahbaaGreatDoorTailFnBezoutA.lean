/-
  The texts LaBase, SpecRoot, SpecBez, BaseMany, ImplBez, BezTop, LawBezout, RecArg, one behind the other, as one.
-/
import Derived.Test.YtmfpnbmfcoahbaaGreatDoorMoreMath
import Derived.Test.YtmfpnbmfcoahbaaGreatDoorRecs
import Derived.Test.YtmfpnbmfcoahbaaGreatDoorBaseRow
import Derived.Test.YtmfpnbmfcoahbaaGreatDoorBaseHeld
import Derived.Test.YtmfpnbmfcoahbaaGreatDoorPkSpecText
import Derived.Test.YtmfpnbmfcoahbaaGreatDoorPkSpecSub
import Derived.Test.YtmfpnbmfcoahbaaGreatDoorPkSpecMul
import Derived.Test.YtmfpnbmfcoahbaaGreatDoorNum
import Derived.Test.YtmfpnbmfcoahbaaGreatDoorBezMath
import Derived.Test.YtmfpnbmfcoahbaaGreatDoorSpecMulNum
import Derived.Test.YtmfpnbmfcoahbaaGreatDoorBaseLate
import Derived.Test.YtmfpnbmfcoahbaaGreatDoorComb
import Derived.Test.YtmfpnbmfcoahbaaGreatDoorPkDivideA
import Derived.Test.YtmfpnbmfcoahbaaGreatDoorImplAdd
import Derived.Test.YtmfpnbmfcoahbaaGreatDoorPkSpecParts
import Derived.Test.YtmfpnbmfcoahbaaGreatDoorPkImplDigits
import Derived.Test.YtmfpnbmfcoahbaaGreatDoorLaid
import Derived.Test.YtmfpnbmfcoahbaaGreatDoorDrawBez
import Derived.Test.YtmfpnbmfcoahbaaGreatDoorPkImplMake
import Derived.Test.YtmfpnbmfcoahbaaGreatDoorPkImplMulNum
import Derived.Test.YtmfpnbmfcoahbaaGreatDoorPkHeld
import Derived.Deep.Strs
import Derived.Carry
import Derived.WalkKit
import Derived.ProofKit
import Derived.OpenShut
import Derived.ShutString
import Derived.ChangeOld

/-
  What spec.la10, laShift, laCut, laMod answer.
-/
namespace Go.Proofs.YtmfpnbmfcoahbaaGreatDoor
open Go.RowKit
set_option linter.unusedVariables false

def byL (x : Int) : List Value := [.int .u8 x]
theorem byL_len (x : Int) : (byL x).length = 1 := rfl
theorem by_flat (n : Nat) : (List.replicate n (0 : Int)).flatMap byL = Lib.byteCells (List.replicate n 0) := by
  induction n with
  | zero => rfl
  | succ n ih => rw [List.replicate_succ, List.flatMap_cons, ih, List.replicate_succ]; rfl
theorem by_make (n : Nat) (hn : n ≤ 1048576) (w : World) : (Instr.makeSlice 22 (.int .i64 (n : Int)) (.int .i64 (n : Int))).run Tryz.prog w = .ok (.slice (some ⟨w.heap.size, 0, none⟩) n n) (w.alloc (.cells (Lib.byteCells (List.replicate n 0)).toArray 5)) := by
  obtain ⟨i, hi, hz, hs, hb⟩ := u8_info
  have hr := run_make (P := Tryz.prog) w 22 5 i _ Tryz.underlying22 hi hz .i64 .i64 n n (by omega) (Int.le_refl _) (by rw [hb]; omega) (by omega)
  simp only [Int.toNat_natCast, hs] at hr
  have e : ((List.replicate n (0 : Int)).flatMap byL).toArray = (Lib.byteCells (List.replicate n 0)).toArray := by rw [by_flat]
  rw [hr, ← e, ← made_rec byL 1 byL_len _ (0 : Int) (by rfl) n]
  rfl
theorem by_set (t : List UInt8) (k : Nat) (c : UInt8) (x : Int) (hx : x = (c.toNat : Int)) : (Lib.byteCells t).toArray.setIfInBounds k (.int .u8 x) = (Lib.byteCells (t.set k c)).toArray := by
  apply Array.ext'
  subst hx
  simp [Lib.byteCells, List.map_set]
theorem by_size : (Tryz.prog.info? 5).map (·.size) = some 1 := by kernel_rfl
theorem by_row {w : World} {q : Nat} {t : List UInt8} (h : RowAt w q 5 (Lib.byteCells t).toArray) : Row w q (.slice (some ⟨q, 0, none⟩) t.length t.length) t := by
  refine ⟨q, t.length, rfl, Nat.le_refl _, RowAt.lt h, Nat.le_refl _, fun j u hu => ?_, fun j hj => ⟨?_, frozen_of_row w q _ _ _ h⟩⟩
  · rw [Nat.zero_add, cell_of_row w q j _ _ _ h]; simpa using hu
  · rw [Nat.zero_add, cell_of_row w q j _ _ _ h]; simp [Lib.byteCells, hj]
theorem fill_set (m k : Nat) (h : k < m) : (List.replicate k (48 : UInt8) ++ List.replicate (m - k) 0).set k 48 = List.replicate (k + 1) 48 ++ List.replicate (m - (k + 1)) 0 := by
  rw [List.set_append_right _ _ (by simp), List.length_replicate, Nat.sub_self, show m - k = (m - (k + 1)) + 1 by omega, List.replicate_succ, List.set_cons_zero, List.replicate_succ', List.append_assoc]; rfl

end Go.Proofs.YtmfpnbmfcoahbaaGreatDoor

/-
  What spec.laSqrt and spec.SqrtNat answer.
-/
namespace Go.Proofs.YtmfpnbmfcoahbaaGreatDoor
open Go.RowKit
set_option linter.unusedVariables false

/-- s is the text of n. -/
def Tx (s : ByteArray) (n : Nat) : Prop := canonB s.data.toList = true ∧ dval s.data.toList = n
theorem Tx.size {s : ByteArray} {n k : Nat} (h : Tx s n) (hn : n < 10 ^ k) (hk : 1 ≤ k) : s.size ≤ k := canon_size hk h.1 h.2 hn
theorem Tx.inj {s t : ByteArray} {n : Nat} (h : Tx s n) (g : Tx t n) : s = t := WideShapes.bytes_inj (canon_inj h.1 g.1 (h.2.trans g.2.symm))
theorem Tx.bytes {s : ByteArray} {n : Nat} (h : Tx s n) (l : List UInt8) (hl : canonB l = true) : (s.toList == l) = decide (n = dval l) := by
  by_cases e : n = dval l
  · rw [decide_eq_true e]; exact str_eq (canon_inj h.1 hl (h.2.trans e))
  · rw [decide_eq_false e]; exact str_ne (fun e2 => e (by rw [← h.2, e2]))

theorem ten_mul {x j : Nat} (c k : Nat) (h : x < 10 ^ j) (hc : c ≤ 10 ^ k) : x * c < 10 ^ (j + k) := by
  rw [Nat.pow_add]
  have h1 : x * c ≤ x * 10 ^ k := Nat.mul_le_mul_left _ hc
  have h2 : x * 10 ^ k < 10 ^ j * 10 ^ k := Nat.mul_lt_mul_of_pos_right h (Nat.pow_pos (by decide))
  omega
theorem ten_add {x y j : Nat} (h : x < 10 ^ j) (g : y < 10 ^ j) : x + y < 10 ^ (j + 1) := by rw [Nat.pow_succ]; omega
theorem ten_mono {x j k : Nat} (h : x < 10 ^ j) (hk : j ≤ k) : x < 10 ^ k := Nat.lt_of_lt_of_le h (Nat.pow_le_pow_right (by decide) hk)

theorem addT {a b : ByteArray} {n m : Nat} (w : World) (ha : Tx a n) (hb : Tx b m) (hsa : a.size ≤ 4000) (hsb : b.size ≤ 4000) :
    Calls Tryz.prog 91 #[.string a, .string b] w fun e w' => ∃ s : ByteArray, e = .returned (.string s) ∧ Tx s (n + m) ∧ Below w.heap.size w w' := by
  refine (l1Add_any a b w hsa hsb ha.1 hb.1).mono ?_
  rintro e w' ⟨s, rfl, h1, h2, h3⟩
  exact ⟨s, rfl, ⟨h1, by rw [h2, ha.2, hb.2]⟩, h3⟩
theorem mulT {a b : ByteArray} {n m : Nat} (w : World) (ha : Tx a n) (hb : Tx b m) (hsa : a.size ≤ 600) (hsb : b.size ≤ 600) :
    Calls Tryz.prog 82 #[.string a, .string b] w fun e w' => ∃ s : ByteArray, e = .returned (.string s) ∧ Tx s (n * m) ∧ Below w.heap.size w w' := by
  refine (l1Mul_any a b w hsa hsb ha.1 hb.1).mono ?_
  rintro e w' ⟨s, rfl, h1, h2, h3⟩
  exact ⟨s, rfl, ⟨h1, by rw [h2, ha.2, hb.2]⟩, h3⟩
theorem subT {a b : ByteArray} {n m : Nat} (w : World) (ha : Tx a n) (hb : Tx b m) (hsa : a.size ≤ 4000) (hsb : b.size ≤ 4000) (hle : m ≤ n) :
    Calls Tryz.prog 65 #[.string a, .string b] w fun e w' => ∃ s : ByteArray, e = .returned (.string s) ∧ Tx s (n - m) ∧ Below w.heap.size w w' := by
  refine (l1Sub_any a b w hsa hsb ha.1 hb.1 (by rw [ha.2, hb.2]; exact hle)).mono ?_
  rintro e w' ⟨s, rfl, h1, h2, h3⟩
  exact ⟨s, rfl, ⟨h1, by rw [h2, ha.2, hb.2]⟩, h3⟩
theorem divT {a b : ByteArray} {n m : Nat} (w : World) (ha : Tx a n) (hb : Tx b m) (hsa : a.size ≤ 2000) (hsb : b.size ≤ 2000) (h0 : m ≠ 0) :
    Calls Tryz.prog 34 #[.string a, .string b] w fun e w' => ∃ s t : ByteArray, e = .returned (.tuple #[.string s, .string t]) ∧ Tx s (n / m) ∧ Tx t (n % m) ∧ Below w.heap.size w w' := by
  refine (l1Div_any a b w hsa hsb ha.1 hb.1 (by rw [hb.2]; exact h0)).mono ?_
  rintro e w' ⟨s, t, rfl, h1, h2, h3, h4, h5⟩
  exact ⟨s, t, rfl, ⟨h1, by rw [h2, ha.2, hb.2]⟩, ⟨h3, by rw [h4, ha.2, hb.2]⟩, h5⟩
theorem cmpT {a b : ByteArray} {n m : Nat} (w : World) (ha : Tx a n) (hb : Tx b m) (hsa : a.size ≤ 4000) (hsb : b.size ≤ 4000) :
    Calls Tryz.prog 64 #[.string a, .string b] w fun e w' => e = .returned (.int .i64 (cmpI n m)) ∧ w' = w := by
  refine (l1Compare_any a b w (by unfold maxLen; omega) (by unfold maxLen; omega) ha.1 hb.1).mono ?_
  rintro e w' ⟨rfl, rfl⟩
  exact ⟨by rw [ha.2, hb.2], rfl⟩
theorem numT (d : Nat) (w : World) (hd : d < 10000) :
    Calls Tryz.prog 54 #[.int .i64 (d : Int)] w fun e w' => ∃ s : ByteArray, e = .returned (.string s) ∧ Tx s d ∧ Below w.heap.size w w' := by
  refine (l1Num_any d hd w).mono ?_
  rintro e w' ⟨s, rfl, h1, h2, h3⟩
  exact ⟨s, rfl, ⟨h1, h2⟩, h3⟩
theorem root_lt {r t p j : Nat} (h : r * r + t = p) (hp : p < 10 ^ (2 * j)) : r < 10 ^ j := by
  rcases Nat.lt_or_ge r (10 ^ j) with h1 | h1
  · exact h1
  · have := Nat.mul_le_mul h1 h1
    rw [← Nat.pow_add, ← Nat.two_mul] at this
    omega
/-- Two digits behind a 1. -/
theorem pair_text {a : ByteArray} (h : a.data.toList.all isDig = true) (i : Nat) (hi : i + 2 ≤ a.size) : ∃ p : Nat, p ≤ 99 ∧ Tx (⟨#[49]⟩ ++ a.extract i (i + 2)) (100 + p) ∧ dval (a.data.toList.take (i + 2)) = 100 * dval (a.data.toList.take i) + p := by
  have hlen : a.data.toList.length = a.size := by simp
  have he : (a.extract i (i + 2)).data.toList = [a.data.toList[i]'(by omega), a.data.toList[i + 1]'(by omega)] := by
    rw [ByteArray.data_extract, Array.toList_extract, List.extract_eq_take_drop, show i + 2 - i = 2 by omega, List.drop_eq_getElem_cons (by omega), List.drop_eq_getElem_cons (by omega)]
    simp
  have h1 : isDig (a.data.toList[i]'(by omega)) = true := List.all_eq_true.1 h _ (List.getElem_mem _)
  have h2 : isDig (a.data.toList[i + 1]'(by omega)) = true := List.all_eq_true.1 h _ (List.getElem_mem _)
  have d1 := dv_lt h1
  have d2 := dv_lt h2
  refine ⟨10 * dv (a.data.toList[i]'(by omega)) + dv (a.data.toList[i + 1]'(by omega)), by omega, ⟨?_, ?_⟩, ?_⟩
  · simp only [ByteArray.data_append, Array.toList_append, he]
    have h49 : isDig 49 = true := by decide
    simp only [List.cons_append, List.nil_append, canonB, List.all_cons, List.all_nil, h1, h2, h49]; rfl
  · simp only [ByteArray.data_append, Array.toList_append, he]
    simp [dval, dv]; omega
  · rw [List.take_succ_eq_append_getElem (by omega), List.take_succ_eq_append_getElem (by omega), dval_snoc, dval_snoc]; omega

/-- A root and what is left. -/
def SqOut (n : Nat) (e : Ending) : Prop := ∃ (s t : ByteArray) (r u : Nat), e = .returned (.tuple #[.string s, .string t]) ∧ Tx s r ∧ Tx t u ∧ r * r + u = n ∧ u ≤ 2 * r
/-- What SqrtNat answers. -/
def SqAns (a : ByteArray) (e : Ending) : Prop :=
  (goodB a.data.toList = true ∧ ∃ (s t : ByteArray) (r u : Nat), e = .returned (.tuple #[.string s, .string t, .bool true]) ∧ Tx s r ∧ Tx t u ∧ r * r + u = dval a.data.toList ∧ u ≤ 2 * r) ∨ (goodB a.data.toList = false ∧ e = .returned (.tuple #[.string ⟨#[]⟩, .string ⟨#[]⟩, .bool false]))
theorem SqAns.same {a : ByteArray} {e e' : Ending} (h : SqAns a e) (g : SqAns a e') : ∃ (s t : ByteArray) (o : Bool), e = .returned (.tuple #[.string s, .string t, .bool o]) ∧ e' = .returned (.tuple #[.string s, .string t, .bool o]) := by
  rcases h with ⟨h0, s, t, r, u, rfl, h1, h2, h3, h4⟩ | ⟨h0, rfl⟩
  · rcases g with ⟨g0, s', t', r', u', rfl, g1, g2, g3, g4⟩ | ⟨g0, rfl⟩
    · obtain ⟨e1, e2⟩ := root_two h3 h4 g3 g4
      subst e1 e2
      obtain rfl := h1.inj g1
      obtain rfl := h2.inj g2
      exact ⟨_, _, _, rfl, rfl⟩
    · rw [h0] at g0; cases g0
  · rcases g with ⟨g0, _⟩ | ⟨g0, rfl⟩
    · rw [h0] at g0; cases g0
    · exact ⟨_, _, _, rfl, rfl⟩

end Go.Proofs.YtmfpnbmfcoahbaaGreatDoor

/-
  What spec.laBezout and spec.BezoutNat answer.
-/
namespace Go.Proofs.YtmfpnbmfcoahbaaGreatDoor
open Go.RowKit
set_option linter.unusedVariables false

theorem WT.size {s : ByteArray} {z : Int} (h : WT s z) : s.size ≤ 601 := by
  have hl : s.data.toList.length = s.size := by simp
  obtain ⟨hc, hv⟩ := dec_canon z.natAbs
  have h1 := (canon_len_le hc 600 (by omega)).2 (by rw [hv]; exact h.1)
  rw [← hl, h.2, List.length_append]
  split <;> simp <;> omega
theorem WT.of_tx {s : ByteArray} {n : Nat} (h : Tx s n) (hn : n < 10 ^ 600) : WT s (n : Int) := by
  refine ⟨by rw [Int.natAbs_natCast]; exact hn, ?_⟩
  rw [if_neg (by omega), List.nil_append]
  obtain ⟨hc, hv⟩ := dec_canon n
  simp only [Int.natAbs_natCast]
  exact canon_inj h.1 hc (h.2.trans hv.symm)
theorem mulZ {a b : ByteArray} {x y : Int} (w : World) (ha : WT a x) (hb : WT b y) (hlt : (x * y).natAbs < 10 ^ 600) :
    Calls Tryz.prog 35 #[.string a, .string b] w fun e w' => (∃ s : ByteArray, e = .returned (.tuple #[.string s, .bool true]) ∧ WT s (x * y)) ∧ Below w.heap.size w w' := by
  refine (specMulNum_any a b w (by have := ha.size; unfold maxLen; omega) (by have := hb.size; unfold maxLen; omega)).mono ?_
  rintro e w' ⟨h1, h2⟩
  exact ⟨mulW ha hb hlt h1, h2⟩
theorem subZ {a b : ByteArray} {x y : Int} (w : World) (ha : WT a x) (hb : WT b y) (hlt : (x - y).natAbs < 10 ^ 600) :
    Calls Tryz.prog 36 #[.string a, .string b] w fun e w' => (∃ s : ByteArray, e = .returned (.tuple #[.string s, .bool true]) ∧ WT s (x - y)) ∧ Below w.heap.size w w' := by
  refine (specSubNum_any a b w (by have := ha.size; unfold maxLen; omega) (by have := hb.size; unfold maxLen; omega)).mono ?_
  rintro e w' ⟨h1, h2⟩
  exact ⟨subW ha hb hlt h1, h2⟩

theorem max_lt3 {A B T : Nat} (hA : A < T) (hB : B < T) : max A B < T := by rw [Nat.max_def]; split <;> assumption
/-- The state of the steps: all in bounds, and what they come to. -/
def BzOk (A B r r' : Nat) (x y x' y' : Int) : Prop := Col (B : Int) r r' x x' ∧ Col (A : Int) r r' y y' ∧ r ≤ max A B ∧ r' ≤ max A B ∧ bz r' r x y x' y' = bz B A 1 0 0 1
theorem BzOk.start (A B : Nat) : BzOk A B A B 1 0 0 1 := ⟨Col.start_x A B, Col.start_y A B, Nat.le_max_left _ _, Nat.le_max_right _ _, rfl⟩
theorem BzOk.step {A B r r' : Nat} {x y x' y' : Int} (h : BzOk A B r r' x y x' y') (h0 : r' ≠ 0) : BzOk A B r' (r % r') x' y' (x - ((r / r' : Nat) : Int) * x') (y - ((r / r' : Nat) : Int) * y') := by
  obtain ⟨h1, h2, h3, h4, h5⟩ := h
  refine ⟨h1.step, h2.step, h4, Nat.le_trans (Nat.le_of_lt (Nat.mod_lt _ (Nat.pos_of_ne_zero h0))) h4, ?_⟩
  rw [← h5, bz_step h0]
/-- What laBezout answers. -/
def BzOut (A B : Nat) (e : Ending) : Prop := ∃ s t u : ByteArray, e = .returned (.tuple #[.string s, .string t, .string u]) ∧ Tx s (bz B A 1 0 0 1).1 ∧ WT t (bz B A 1 0 0 1).2.1 ∧ WT u (bz B A 1 0 0 1).2.2

set_option maxHeartbeats 4000000 in
set_option maxRecDepth 100000 in
theorem laBezout_any {a b : ByteArray} {A B : Nat} (w : World) (ha : Tx a A) (hb : Tx b B) (hA : A < 10 ^ 600) (hB : B < 10 ^ 600) :
    Calls Tryz.prog 16 #[.string a, .string b] w fun e w' => BzOut A B e ∧ Below w.heap.size w w' := by
  have HAB := hideT (And.intro ha (And.intro hb (And.intro hA hB)))
  have HM : Hid (max A B < 10 ^ 600) := max_lt3 hA hB
  have H1 : Hid (WT ⟨#[49]⟩ 1 ∧ WT ⟨#[48]⟩ 0) := ⟨WT.of_tx (n := 1) ⟨by decide, by decide⟩ one_lt_600, WT.of_tx (n := 0) ⟨by decide, by decide⟩ (Nat.lt_trans (by decide) one_lt_600)⟩
  clear ha hb hA hB
  go_enter Tryz.func16, Tryz.ntmps16
  go_wp2_with fail
  go_loopg [0, 1, 7, 8, 9, 10] B (fun g va vb vx vy vu vv wr => ∃ (r : Nat) (x y x' y' : Int) (sr sr' sx sy sx' sy' : ByteArray), va = .string sr ∧ vb = .string sr' ∧ vx = .string sx ∧ vy = .string sy ∧ vu = .string sx' ∧ vv = .string sy' ∧ Hid (BzOk A B r g x y x' y') ∧ Hid (Tx sr r ∧ Tx sr' g ∧ WT sx x ∧ WT sy y ∧ WT sx' x' ∧ WT sy' y') ∧ Hid (Below w.heap.size w wr))
  case atStart => exact ⟨A, 1, 0, 0, 1, a, b, ⟨#[49]⟩, ⟨#[48]⟩, ⟨#[48]⟩, ⟨#[49]⟩, rfl, rfl, rfl, rfl, rfl, rfl, BzOk.start A B, ⟨HAB.out.1, HAB.out.2.1, H1.out.1, H1.out.2, H1.out.2, H1.out.1⟩, Below.refl _ _⟩
  case round =>
    obtain ⟨r, x, y, x', y', sr, sr', sx, sy, sx', sy', rfl, rfl, rfl, rfl, rfl, rfl, HO, HT, HBL⟩ := hrel
    have hbl := HBL.out.size
    have hz := HT.out.2.1.bytes [48] (by decide)
    rw [show dval [48] = 0 by decide] at hz
    by_cases h0 : gk = 0
    · rw [decide_eq_true h0] at hz
      have HE : Hid (BzOut A B (.returned (.tuple #[.string sr, .string sx, .string sy]))) := by
        have h5 := HO.out.2.2.2.2
        rw [h0, bz_end] at h5
        refine ⟨sr, sx, sy, rfl, ?_, ?_, ?_⟩ <;> rw [← h5]
        · exact HT.out.1
        · exact HT.out.2.2.1
        · exact HT.out.2.2.2.1
      clear h0
      go_wp2
      go_ret3
      exact ⟨HE.out, HBL.out⟩
    · rw [decide_eq_false h0] at hz
      have HS := hideT (HO.out.step h0)
      have hpos : 0 < gk := Nat.pos_of_ne_zero h0
      have bx := HO.out.1.bound hpos
      have by' := HO.out.2.1.bound hpos
      have hAB : Hid (A < 10 ^ 600 ∧ B < 10 ^ 600) := HAB.out.2.2
      have HBD : Hid ((((r / gk : Nat) : Int) * x').natAbs < 10 ^ 600 ∧ (x - ((r / gk : Nat) : Int) * x').natAbs < 10 ^ 600 ∧ (((r / gk : Nat) : Int) * y').natAbs < 10 ^ 600 ∧ (y - ((r / gk : Nat) : Int) * y').natAbs < 10 ^ 600) := by
        simp only [Int.natAbs_natCast] at bx by'
        exact ⟨Nat.lt_of_le_of_lt bx.2 hAB.out.2, Nat.lt_of_le_of_lt bx.1 hAB.out.2, Nat.lt_of_le_of_lt by'.2 hAB.out.1, Nat.lt_of_le_of_lt by'.1 hAB.out.1⟩
      have HR : Hid (r < 10 ^ 600 ∧ gk < 10 ^ 600) := ⟨Nat.lt_of_le_of_lt HO.out.2.2.1 HM.out, Nat.lt_of_le_of_lt HO.out.2.2.2.1 HM.out⟩
      have hsr : sr.size ≤ 600 := HT.out.1.size HR.out.1 (by omega)
      have hsr' : sr'.size ≤ 600 := HT.out.2.1.size HR.out.2 (by omega)
      have HLT : Hid (r % gk < gk) := Nat.mod_lt _ hpos
      have HP := hideT h0
      clear h0 bx by' hpos
      go_wp2_with fail
      refine (divT _ HT.out.1 HT.out.2.1 (by omega) (by omega) HP.out).mono ?_
      rintro e w1 ⟨q, t, rfl, hq, ht, hW1⟩
      have HQ : Hid (WT q ((r / gk : Nat) : Int)) := WT.of_tx hq (Nat.lt_of_le_of_lt (Nat.div_le_self _ _) HR.out.1)
      have HTT := hideT ht
      have hB1 : Below w.heap.size w w1 := HBL.out.trans (hW1.mono hbl)
      clear hq ht hW1
      go_wp2_with fail
      refine (mulZ w1 HQ.out HT.out.2.2.2.2.1 HBD.out.1).mono ?_
      rintro e w2 ⟨⟨m1, rfl, hm1⟩, hW2⟩
      have HM1 := hideT hm1
      have hB2 : Below w.heap.size w w2 := hB1.trans (hW2.mono hB1.size)
      clear hm1 hW2 hB1
      go_wp2_with fail
      refine (subZ w2 HT.out.2.2.1 HM1.out HBD.out.2.1).mono ?_
      rintro e w3 ⟨⟨d1, rfl, hd1⟩, hW3⟩
      have HD1 := hideT hd1
      have hB3 : Below w.heap.size w w3 := hB2.trans (hW3.mono hB2.size)
      clear hd1 hW3 hB2
      go_wp2_with fail
      refine (mulZ w3 HQ.out HT.out.2.2.2.2.2 HBD.out.2.2.1).mono ?_
      rintro e w4 ⟨⟨m2, rfl, hm2⟩, hW4⟩
      have HM2 := hideT hm2
      have hB4 : Below w.heap.size w w4 := hB3.trans (hW4.mono hB3.size)
      clear hm2 hW4 hB3
      go_wp2_with fail
      refine (subZ w4 HT.out.2.2.2.1 HM2.out HBD.out.2.2.2).mono ?_
      rintro e w5 ⟨⟨d2, rfl, hd2⟩, hW5⟩
      have HD2 := hideT hd2
      have hB5 : Below w.heap.size w w5 := hB4.trans (hW5.mono hB4.size)
      clear hd2 hW5 hB4
      go_wp2
      go_roundg (r % gk)
      case measure => exact HLT.out
      case rel => exact ⟨gk, x', y', _, _, sr', t, sx', sy', d1, d2, rfl, rfl, rfl, rfl, rfl, rfl, HS, ⟨HT.out.2.1, HTT.out, HT.out.2.2.2.2.1, HT.out.2.2.2.2.2, HD1.out, HD2.out⟩, hB5⟩

/-- May Bezout's numbers be told? -/
def bzOk (a b : ByteArray) : Bool := (goodB a.data.toList && goodB b.data.toList) && !(decide (dval a.data.toList = 0) && decide (dval b.data.toList = 0))
/-- What BezoutNat answers. -/
def BzAns (a b : ByteArray) (e : Ending) : Prop :=
  (bzOk a b = true ∧ ∃ s t u : ByteArray, e = .returned (.tuple #[.string s, .string t, .string u, .bool true]) ∧ Tx s (bz (dval b.data.toList) (dval a.data.toList) 1 0 0 1).1 ∧ WT t (bz (dval b.data.toList) (dval a.data.toList) 1 0 0 1).2.1 ∧ WT u (bz (dval b.data.toList) (dval a.data.toList) 1 0 0 1).2.2) ∨ (bzOk a b = false ∧ e = .returned (.tuple #[.string ⟨#[]⟩, .string ⟨#[]⟩, .string ⟨#[]⟩, .bool false]))
theorem BzAns.same {a b : ByteArray} {e e' : Ending} (h : BzAns a b e) (g : BzAns a b e') : ∃ (s t u : ByteArray) (o : Bool), e = .returned (.tuple #[.string s, .string t, .string u, .bool o]) ∧ e' = .returned (.tuple #[.string s, .string t, .string u, .bool o]) := by
  rcases h with ⟨h0, s, t, u, rfl, h1, h2, h3⟩ | ⟨h0, rfl⟩
  · rcases g with ⟨g0, s', t', u', rfl, g1, g2, g3⟩ | ⟨g0, rfl⟩
    · obtain rfl := h1.inj g1
      obtain rfl := h2.inj g2
      obtain rfl := h3.inj g3
      exact ⟨_, _, _, _, rfl, rfl⟩
    · rw [h0] at g0; cases g0
  · rcases g with ⟨g0, _⟩ | ⟨g0, rfl⟩
    · rw [h0] at g0; cases g0
    · exact ⟨_, _, _, _, rfl, rfl⟩
end Go.Proofs.YtmfpnbmfcoahbaaGreatDoor

/-
  Drawn regions whose stores may come up early: what a later load reads holds till the store that turns it came up.
-/
namespace Go.Proofs.YtmfpnbmfcoahbaaGreatDoor.BL
open Go.RowKit Go.Proofs.YtmfpnbmfcoahbaaGreatDoor
set_option linter.unusedVariables false

section
variable {P : Program} {ops : Array Oper} {Q : Exit → Act → World → Prop} {md : Region.Mode} {ps : List (Nat × (World → Prop))} {S : World → Prop}

/-- S holds, and each of the others till its own store came up. -/
def LateAll (ps : List (Nat × (World → Prop))) (S : World → Prop) (L : Array Bool) (w : World) : Prop := S w ∧ ∀ p ∈ ps, L.getD p.1 false = true ∨ p.2 w

def wpAnyM (P : Program) (md : Region.Mode) (ops : Array Oper) (Q : Exit → Act → World → Prop) (ps : List (Nat × (World → Prop))) (S : World → Prop) : Nat → Array Bool → Act → World → Prop
  | 0, listed, a, w => Region.ready md ops listed = [] ∧ Q .normal a w
  | fuel + 1, listed, a, w =>
    (Region.ready md ops listed = [] → Q .normal a w) ∧
    ∀ i ∈ Region.ready md ops listed, wpOp P ops Q i (fun a' w' => LateAll ps S (listed.setIfInBounds i true) w' ∧ wpAnyM P md ops Q ps S fuel (listed.setIfInBounds i true) a' w') a w

theorem wpAny_of_many : ∀ (fuel : Nat) (listed : Array Bool) (a : Act) (w : World), wpAnyM P md ops Q ps S fuel listed a w → wpAny P md ops Q fuel listed a w
  | 0, _, _, _, h => h
  | fuel + 1, _, _, _, h => ⟨h.1, fun i hi => wpOp_mono (fun a' w' h' => wpAny_of_many fuel _ a' w' h'.2) (h.2 i hi)⟩

theorem LateAll.set {L : Array Bool} {w : World} {i : Nat} (h : LateAll ps S L w) : LateAll ps S (L.setIfInBounds i true) w := ⟨h.1, fun p hp => (h.2 p hp).imp (fun h => by
  by_cases e : i = p.1
  · subst e
    rcases Nat.lt_or_ge p.1 L.size with h' | h'
    · simp [h']
    · simp [Array.getElem?_eq_none h'] at h
  · rw [getD_set_ne false e]; exact h) id⟩
theorem LateAll.unset {L : Array Bool} {w : World} {i : Nat} (hni : ∀ p ∈ ps, p.1 ≠ i) (h : LateAll ps S (L.setIfInBounds i true) w) : LateAll ps S L w := ⟨h.1, fun p hp => (h.2 p hp).imp (fun h => by
  rw [getD_set_ne false (Ne.symm (hni p hp))] at h; exact h) id⟩

theorem wpAnyM_first {i : Nat} {oi : Oper} {v : Value} (hi : ops[i]? = some oi) (hsel : ∀ (j : Nat) (o : Oper) cs b, ops[j]? = some o → o.op ≠ .select cs b)
    (hQ : ∀ c a w, Q (.panic c) (a.put oi.dst v) w → Q (.panic c) a w) (W : List Nat) (hil : i ∉ W) (hni : ∀ p ∈ ps, p.1 ≠ i) (hwait : ∀ k ∈ W, ∀ ok, ops[k]? = some ok → ∃ e ∈ ok.after, Region.binds md e = true ∧ (e.on = i ∨ e.on ∈ W)) :
    ∀ (fuel : Nat) (listed : Array Bool) (a : Act) (w : World),
      (∀ j oj, ops[j]? = some oj → j ≠ i → listed.getD j true = false → (∀ e ∈ oj.after, Region.binds md e = true → e.on ≠ i) → oi.apart ops oj = true) →
      (∀ k ∈ W, listed.getD k false = false) → i ∈ Region.ready md ops listed → YieldsIf P ops (fun w => S w ∧ ∀ p ∈ ps, p.1 ∈ W → p.2 w) oi v a → LateAll ps S listed w →
      wpAnyM P md ops Q ps S fuel (listed.setIfInBounds i true) (a.put oi.dst v) w → wpAnyM P md ops Q ps S (fuel + 1) listed a w := by
  have key : ∀ (L : Array Bool) (w : World), (∀ k ∈ W, L.getD k false = false) → LateAll ps S L w → S w ∧ ∀ p ∈ ps, p.1 ∈ W → p.2 w := fun L w hW h => ⟨h.1, fun p hp hpW => (h.2 p hp).resolve_left (by rw [hW _ hpW]; simp)⟩
  intro fuel
  induction fuel with
  | zero =>
    intro listed a w _ hW hr hy hS H
    refine ⟨fun h => (by rw [h] at hr; cases hr), fun j hj => ?_⟩
    by_cases hji : j = i
    · subst hji; exact hy.wpOp hi (key _ _ hW hS) ⟨hS.set, H⟩
    · have := ready_mono hj hji
      rw [H.1] at this
      cases this
  | succ fuel ih =>
    intro listed a w hfree hlate hr hy hS H
    refine ⟨fun h => (by rw [h] at hr; cases hr), fun j hj => ?_⟩
    by_cases hji : j = i
    · subst hji; exact hy.wpOp hi (key _ _ hlate hS) ⟨hS.set, H⟩
    · have h1 := H.2 j (ready_mono hj hji)
      obtain ⟨hjun, oj, hoj, hall⟩ := mem_ready.1 hj
      have hnot : ∀ e ∈ oj.after, Region.binds md e = true → e.on ≠ i := fun e he hb heq => by
        have h1 := hall e he hb
        have h0 := (mem_ready.1 hr).1
        rw [heq] at h1
        rcases Nat.lt_or_ge i listed.size with h' | h'
        · simp [h'] at h0 h1; rw [h0] at h1; cases h1
        · simp [Array.getElem?_eq_none h'] at h1
      have hjl : j ∉ W := fun hj' => by
        obtain ⟨e, he, hb, heq⟩ := hwait j hj' oj hoj
        rcases heq with heq | heq
        · exact hnot e he hb heq
        · have := hall e he hb
          rw [hlate _ heq] at this
          cases this
      have h2 := wpOp_putIf hoj (hfree j oj hoj hji hjun hnot) (fun cs b => hsel i oi cs b hi) (fun cs b => hsel j oj cs b hoj) hQ hy h1
      have hfree' : ∀ k ok, ops[k]? = some ok → k ≠ i → (listed.setIfInBounds j true).getD k true = false →
          (∀ e ∈ ok.after, Region.binds md e = true → e.on ≠ i) → oi.apart ops ok = true := fun k ok hk hki hun hno => by
        refine hfree k ok hk hki ?_ hno
        by_cases hjk : j = k
        · subst hjk; exact hjun
        · rw [getD_set_ne true hjk] at hun; exact hun
      have hlate' : ∀ k ∈ W, (listed.setIfInBounds j true).getD k false = false := fun k hk => by
        rw [getD_set_ne false (fun e => hjl (by rw [e]; exact hk))]; exact hlate k hk
      refine wpOp_mono (fun a' w' h3 => ?_) h2
      have hS' : LateAll ps S (listed.setIfInBounds j true) w' := by
        have := h3.2.1
        rw [Array.setIfInBounds_comm _ _ (Ne.symm hji)] at this
        exact this.unset hni
      refine ⟨hS', ih (listed.setIfInBounds j true) a' w' hfree' hlate' (ready_mono hr (Ne.symm hji)) h3.1 hS' ?_⟩
      rw [Array.setIfInBounds_comm _ _ hji]
      exact h3.2.2

/-- All of W wait for number i. -/
def waitsM (md : Region.Mode) (ops : Array Oper) (W : List Nat) (listed : Array Bool) (i : Nat) : Bool :=
  !W.contains i && W.all fun k => !listed.getD k false && match ops[k]? with
    | some ok => ok.after.any fun e => Region.binds md e && (e.on == i || W.contains e.on)
    | none => true

/-- Number i may be taken first. -/
theorem many_val {o : Oper} {fuel : Nat} {listed : Array Bool} {a : Act} {w : World} (i : Nat) (d : Option Tmp) (hi : ops[i]? = some o) (hd : o.dst = d) (hs : Region.noSelect ops = true) (hf : Region.free md ops listed i = true) (hr : (Region.ready md ops listed).contains i = true)
    (W : List Nat) (hl : waitsM md ops W listed i = true) (hni : ∀ p ∈ ps, p.1 ≠ i) (hQ : ∀ c a d v w, Q (.panic c) (Act.put a d v) w → Q (.panic c) a w) (hw : Region.wanted o (yielded ops a.tmps) = true) (v : Value) (hv : ∀ w, (S w ∧ ∀ p ∈ ps, p.1 ∈ W → p.2 w) → (execOp a.eval o).run P w = .ok (.value v) w) (hS : LateAll ps S listed w)
    (h : wpAnyM P md ops Q ps S fuel (listed.setIfInBounds i true) (a.put d v) w) : wpAnyM P md ops Q ps S (fuel + 1) listed a w := by
  subst hd
  unfold waitsM at hl
  simp only [Bool.and_eq_true, Bool.not_eq_true', List.all_eq_true] at hl
  obtain ⟨hl1, hl2⟩ := hl
  refine wpAnyM_first hi (Region.noSelect_spec hs) (fun c a w => hQ c a _ _ w) W (fun h => by simp [h] at hl1) hni (fun k hk ok hok => ?_) fuel listed a w (Region.free_spec hi hf) (fun k hk => (hl2 k hk).1) (by simpa using hr) (.inl ⟨hw, hv⟩) hS h
  have h2 := (hl2 k hk).2
  rw [hok] at h2
  simp only [Array.any_eq_true', Bool.and_eq_true, Bool.or_eq_true, beq_iff_eq, List.contains_iff_mem] at h2
  exact h2

/-- The one operation that may come up. -/
theorem many_one {o : Oper} {fuel : Nat} {listed : Array Bool} {a : Act} {w : World} (i : Nat) (hr : Region.ready md ops listed = [i]) (hi : ops[i]? = some o) (hw : Region.wanted o (yielded ops a.tmps) = true)
    (h : ∀ K' : Act → World → Prop, Hid (∀ a w, LateAll ps S (listed.setIfInBounds i true) w → wpAnyM P md ops Q ps S fuel (listed.setIfInBounds i true) a w → K' a w) → Oper.wp P o a w K' Q) : wpAnyM P md ops Q ps S (fuel + 1) listed a w := by
  refine ⟨fun h0 => (by rw [hr] at h0; cases h0), fun j hj => ?_⟩
  rw [hr] at hj
  simp only [List.mem_singleton] at hj
  subst hj
  refine wpOp_step hi fun K hK => ?_
  rw [if_pos hw]
  exact h K (fun a w h1 h2 => hK a w ⟨h1, h2⟩)
/-- The one operation that may come up gives a value. -/
theorem many_ready {o : Oper} {fuel : Nat} {listed : Array Bool} {a : Act} {w : World} (i : Nat) (d : Option Tmp) (hr : Region.ready md ops listed = [i]) (hi : ops[i]? = some o) (hw : Region.wanted o (yielded ops a.tmps) = true) (hd : o.dst = d) (v : Value) (w' : World)
    (he : (execOp a.eval o).run P w = .ok (.value v) w') (hS : LateAll ps S (listed.setIfInBounds i true) w') (h : wpAnyM P md ops Q ps S fuel (listed.setIfInBounds i true) (a.put d v) w') : wpAnyM P md ops Q ps S (fuel + 1) listed a w := by
  subst hd
  refine many_one i hr hi hw fun K hK => ?_
  unfold Oper.wp
  rw [he]
  exact hK.out _ _ hS h
theorem many_done {listed : Array Bool} {a : Act} {w : World} (hr : Region.ready md ops listed = []) (h : Q .normal a w) :
    ∀ fuel, wpAnyM P md ops Q ps S fuel listed a w
  | 0 => ⟨hr, h⟩
  | _ + 1 => ⟨fun _ => h, by rw [hr]; simp⟩
end
end Go.Proofs.YtmfpnbmfcoahbaaGreatDoor.BL

/-
  What impl.bezout answers.
-/
namespace Go.Proofs.YtmfpnbmfcoahbaaGreatDoor
open Go.RowKit
set_option linter.unusedVariables false

/-- A combination: its parts, and what the two whole ones are worth. -/
structure Cb where
  k : Nat
  p : List Int
  x : Int
  k1 : Nat
  p1 : List Int
  y : Int
  k2 : Nat
  p2 : List Int
def Cb.C (c : Cb) : Array Value := combC c.k c.p (decide (c.x < 0)) c.k1 c.p1 (decide (c.y < 0)) c.k2 c.p2
structure Cb.Ok (c : Cb) (r : Nat) : Prop where
  r : Rep r c.k c.p
  x : Rep c.x.natAbs c.k1 c.p1
  y : Rep c.y.natAbs c.k2 c.p2
def Cb.At (w : World) (b : Nat) (c : Cb) : Prop := RowAt w b 38 c.C
theorem Cb.At.comb {w : World} {b : Nat} {c : Cb} (h : Cb.At w b c) : CombAt w b c.k c.p (decide (c.x < 0)) c.k1 c.p1 (decide (c.y < 0)) c.k2 c.p2 := h
theorem Cb.Ok.size {c : Cb} {r : Nat} (h : c.Ok r) : c.C.size = 617 := comb_len _ _ _ _ _ _ _ _ h.r.len h.x.len h.y.len
theorem Cb.one (c : Cb) : c.C.all (·.oneCell') = true := comb_one _ _ _ _ _ _ _ _
theorem Cb.Ok.info {c : Cb} {r : Nat} (h : c.Ok r) : (Tryz.prog.info? 38).map (·.size) = some c.C.size := by rw [h.size]; exact zero_comb.2
def zC : Array Value := combC 0 zP false 0 zP false 0 zP
theorem zC_size : zC.size = 617 := comb_len _ _ _ _ _ _ _ _ zP_len zP_len zP_len
section
variable {ops : Array Oper} {rest : List Oper} {o : Oper} {a : Act} {w : World} {Q : Exit → Act → World → Prop}
theorem load_cb (hgd : o.guard = none) (x : Operand) (ho : o.op = .load 38 x) (b : Nat) (hx : a.eval x = .pointer (some ⟨b, 0, none⟩)) (c : Cb) (r : Nat) (hN : Cb.At w b c) (hok : c.Ok r)
    (h : wpList Tryz.prog ops Q rest (a.put o.dst (.agg c.C)) w) : wpList Tryz.prog ops Q (o :: rest) a w :=
  wpList_load_row hgd 38 x ho b hx 38 c.C (0, 0) _ hN Tryz.underlying38 rfl hok.info h
theorem store_cb (hgd : o.guard = none) (x y : Operand) (ho : o.op = .store 38 x y) (hd : o.dst = none) (b : Nat) (c : Cb) (r : Nat) (hx : a.eval x = .pointer (some ⟨b, 0, none⟩)) (hy : a.eval y = .agg c.C) (c0 : Array Value) (hN : RowAt w b 38 c0) (h0 : c0.size = 617) (hok : c.Ok r)
    (h : ∀ w', Cb.At w' b c → w.grownBy w' (some b) → w'.heap.size = w.heap.size → wpList Tryz.prog ops Q rest a w') : wpList Tryz.prog ops Q (o :: rest) a w := by
  refine wpList_store_row hgd 38 x y ho b c.C hx hy 38 c0 hN hok.info (by rw [h0, hok.size]) c.one ?_
  rw [hd]
  exact h _ (setRow_heap w b _ _ _ _ hN) ⟨rfl, rfl, rfl, by simp, fun k _ hne => setRow_other w b k _ (by intro e; exact hne (by rw [e]))⟩ (by simp)
end
theorem cb_store_wp {o : Oper} {a : Act} {w : World} {K : Act → World → Prop} {Q : Exit → Act → World → Prop} (x y : Operand) (ho : o.op = .store 38 x y) (hd : o.dst = none) (b : Nat) (c : Cb) (r : Nat) (hx : a.eval x = .pointer (some ⟨b, 0, none⟩)) (hy : a.eval y = .agg c.C) (c0 : Array Value) (hN : RowAt w b 38 c0) (h0 : c0.size = 617) (hok : c.Ok r)
    (h : ∀ w', Cb.At w' b c → w.grownBy w' (some b) → w'.heap.size = w.heap.size → K a w') : o.wp Tryz.prog a w K Q := by
  refine wp_store_row 38 x y ho b c.C hx hy 38 c0 hN hok.info (by rw [h0, hok.size]) c.one ?_
  rw [hd]
  exact h _ (setRow_heap w b _ _ _ _ hN) ⟨rfl, rfl, rfl, by simp, fun k _ hne => setRow_other w b k _ (by intro e; exact hne (by rw [e]))⟩ (by simp)
theorem held_store_cb {ops : Array Oper} {Q : Exit → Act → World → Prop} {md : Region.Mode} {S : World → Prop} {o : Oper} {fuel : Nat} {listed : Array Bool} {a : Act} {w : World} (i : Nat) (hr : Region.ready md ops listed = [i]) (hi : ops[i]? = some o) (hw : Region.wanted o (yielded ops a.tmps) = true) (x y : Operand) (ho : o.op = .store 38 x y) (hd : o.dst = none)
    (b : Nat) (c : Cb) (r : Nat) (hx : a.eval x = .pointer (some ⟨b, 0, none⟩)) (hy : a.eval y = .agg c.C) (c0 : Array Value) (hN : RowAt w b 38 c0) (h0 : c0.size = 617) (hok : c.Ok r)
    (h : ∀ w', Cb.At w' b c → w.grownBy w' (some b) → w'.heap.size = w.heap.size → S w' ∧ wpAnyH Tryz.prog md ops Q S fuel (listed.setIfInBounds i true) a w') : wpAnyH Tryz.prog md ops Q S (fuel + 1) listed a w := by
  refine wpAnyH_ready hr (by simp) (AllReadyH.cons hi (fun K hK => ?_) AllReadyH.nil)
  rw [if_pos hw]
  refine cb_store_wp x y ho hd b c r hx hy c0 hN h0 hok ?_
  intro w' h1 h2 h3
  have := h w' h1 h2 h3
  exact hK.out _ _ this.1 (fun _ => this.2)
theorem late_store_cb {ops : Array Oper} {Q : Exit → Act → World → Prop} {md : Region.Mode} {late : List Nat} {S : World → Prop} {o : Oper} {fuel : Nat} {listed : Array Bool} {a : Act} {w : World} (i : Nat) (hr : Region.ready md ops listed = [i]) (hi : ops[i]? = some o) (hw : Region.wanted o (yielded ops a.tmps) = true) (x y : Operand) (ho : o.op = .store 38 x y) (hd : o.dst = none)
    (b : Nat) (c : Cb) (r : Nat) (hx : a.eval x = .pointer (some ⟨b, 0, none⟩)) (hy : a.eval y = .agg c.C) (c0 : Array Value) (hN : RowAt w b 38 c0) (h0 : c0.size = 617) (hok : c.Ok r)
    (h : ∀ w', Cb.At w' b c → w.grownBy w' (some b) → w'.heap.size = w.heap.size → LateOr late S (listed.setIfInBounds i true) w' ∧ wpAnyL Tryz.prog md ops Q late S fuel (listed.setIfInBounds i true) a w') : wpAnyL Tryz.prog md ops Q late S (fuel + 1) listed a w := by
  refine late_one i hr hi hw fun K hK => ?_
  refine cb_store_wp x y ho hd b c r hx hy c0 hN h0 hok ?_
  intro w' h1 h2 h3
  have := h w' h1 h2 h3
  exact hK.out _ _ this.1 this.2
/-- Building, as an operation. -/
theorem run_build2 {o : Oper} {a : Act} {w : World} (T : TypeId) (i j : Nat) (x y : Operand) (ho : o.op = .build T #[(i, x), (j, y)]) (u v : Value) (hx : a.eval x = u) (hy : a.eval y = v) (c : Array Value) (hb : Tryz.prog.built T [(i, u), (j, v)] = some c) :
    (execOp a.eval o).run Tryz.prog w = .ok (.value (.agg c)) w := by
  have h := run_build (P := Tryz.prog) w T #[(i, u), (j, v)] c hb
  unfold execOp
  simp only [ho, hx, hy, List.map_toArray, List.map_cons, List.map_nil, Sem.run_bind, h, Result.andThen_ok]
  rfl
theorem run_build3 {o : Oper} {a : Act} {w : World} (T : TypeId) (i j k : Nat) (x y z : Operand) (ho : o.op = .build T #[(i, x), (j, y), (k, z)]) (u v t : Value) (hx : a.eval x = u) (hy : a.eval y = v) (hz : a.eval z = t) (c : Array Value) (hb : Tryz.prog.built T [(i, u), (j, v), (k, t)] = some c) :
    (execOp a.eval o).run Tryz.prog w = .ok (.value (.agg c)) w := by
  have h := run_build (P := Tryz.prog) w T #[(i, u), (j, v), (k, t)] c hb
  unfold execOp
  simp only [ho, hx, hy, hz, List.map_toArray, List.map_cons, List.map_nil, Sem.run_bind, h, Result.andThen_ok]
  rfl
theorem many_begin {ops : Array Oper} {Q : Exit → Act → World → Prop} {a : Act} {w : World} {id : Nat} (ps : List (Nat × (World → Prop))) (S : World → Prop) (hm : Tryz.prog.follows .mixedOrders = true) (h : BL.wpAnyM Tryz.prog .any ops (NoPanic Q) ps S ops.size (Array.replicate ops.size false) a w.drew) : (Code.region id ops true).wp Tryz.prog Q a w :=
  wp_region_noPanic (wp_region_any hm (BL.wpAny_of_many _ _ _ _ h))
theorem many_call {ops : Array Oper} {Q : Exit → Act → World → Prop} {md : Region.Mode} {ps : List (Nat × (World → Prop))} {S : World → Prop} {o : Oper} {fuel : Nat} {listed : Array Bool} {a : Act} {w : World} (i : Nat) (d : Option Tmp) (hr : Region.ready md ops listed = [i]) (hi : ops[i]? = some o) (hw : Region.wanted o (yielded ops a.tmps) = true) (hd : o.dst = d) (f : FuncId) (args : Array Value)
    (he : (execOp a.eval o).run Tryz.prog w = .ok (.enter f args) w) (R : Ending → World → Prop) (hc : Calls Tryz.prog f args w R)
    (h : ∀ e w', R e w' → ∃ v, e = .returned v ∧ BL.LateAll ps S (listed.setIfInBounds i true) w' ∧ BL.wpAnyM Tryz.prog md ops Q ps S fuel (listed.setIfInBounds i true) (a.put d v) w') : BL.wpAnyM Tryz.prog md ops Q ps S (fuel + 1) listed a w := by
  subst hd
  refine BL.many_one i hr hi hw fun K hK => ?_
  unfold Oper.wp
  rw [he]
  simp only [Oper.upon]
  refine hc.mono ?_
  intro e w' hR
  obtain ⟨v, rfl, hS, hn⟩ := h e w' hR
  exact hK.out _ _ hS hn
theorem many_store_cb {ops : Array Oper} {Q : Exit → Act → World → Prop} {md : Region.Mode} {ps : List (Nat × (World → Prop))} {S : World → Prop} {o : Oper} {fuel : Nat} {listed : Array Bool} {a : Act} {w : World} (i : Nat) (hr : Region.ready md ops listed = [i]) (hi : ops[i]? = some o) (hw : Region.wanted o (yielded ops a.tmps) = true) (x y : Operand) (ho : o.op = .store 38 x y) (hd : o.dst = none)
    (b : Nat) (c : Cb) (r : Nat) (hx : a.eval x = .pointer (some ⟨b, 0, none⟩)) (hy : a.eval y = .agg c.C) (c0 : Array Value) (hN : RowAt w b 38 c0) (h0 : c0.size = 617) (hok : c.Ok r)
    (h : ∀ w', Cb.At w' b c → w.grownBy w' (some b) → w'.heap.size = w.heap.size → BL.LateAll ps S (listed.setIfInBounds i true) w' ∧ BL.wpAnyM Tryz.prog md ops Q ps S fuel (listed.setIfInBounds i true) a w') : BL.wpAnyM Tryz.prog md ops Q ps S (fuel + 1) listed a w := by
  refine BL.many_one i hr hi hw fun K hK => ?_
  refine cb_store_wp x y ho hd b c r hx hy c0 hN h0 hok ?_
  intro w' h1 h2 h3
  have := h w' h1 h2 h3
  exact hK.out _ _ this.1 this.2
theorem late2 {S f g : World → Prop} {L : Array Bool} {w : World} (h : S w) (h1 : L.getD 17 false = true ∨ f w) (h2 : L.getD 18 false = true ∨ g w) : BL.LateAll [(17, f), (18, g)] S L w := by
  refine ⟨h, fun p hp => ?_⟩
  simp only [List.mem_cons, List.not_mem_nil, or_false] at hp
  rcases hp with rfl | rfl
  · exact h1
  · exact h2
theorem not_late {f g : World → Prop} (i : Nat) (h1 : 17 ≠ i) (h2 : 18 ≠ i) : ∀ p ∈ ([(17, f), (18, g)] : List (Nat × (World → Prop))), p.1 ≠ i := by
  intro p hp
  simp only [List.mem_cons, List.not_mem_nil, or_false] at hp
  rcases hp with rfl | rfl
  · exact h1
  · exact h2
/-- Two new variables, in either order. -/
theorem alloc_two {ops : Array Oper} {Q : Exit → Act → World → Prop} {md : Region.Mode} {S : World → Prop} {fuel : Nat} {listed : Array Bool} {a : Act} {w : World} {T : TypeId} {zero : Array Value} {oi oj : Oper} (i j : Nat) (di dj : Tmp) (hi : ops[i]? = some oi) (hj : ops[j]? = some oj) (hdi : oi.dst = some di) (hdj : oj.dst = some dj) (hoi : oi.op = .alloc T) (hoj : oj.op = .alloc T)
    (gi : ∀ ts, Region.wanted oi ts = true) (gj : ∀ ts, Region.wanted oj ts = true) (hr : Region.ready md ops listed = [i, j]) (hri : Region.ready md ops (listed.setIfInBounds i true) = [j]) (hrj : Region.ready md ops (listed.setIfInBounds j true) = [i]) (hne : i ≠ j) (hde : di ≠ dj)
    (hz : ∀ w, (zeroValue T).run Tryz.prog w = .ok (.agg zero) w) (hS : ∀ w', Below w.heap.size w w' → S w')
    (h : ∀ w' px py, Below w.heap.size w w' → RowAt w' px T zero → RowAt w' py T zero → px ≠ py → w.heap.size ≤ px → w.heap.size ≤ py → wpAnyH Tryz.prog md ops Q S fuel ((listed.setIfInBounds i true).setIfInBounds j true) ((a.put (some di) (.pointer (some ⟨px, 0, none⟩))).put (some dj) (.pointer (some ⟨py, 0, none⟩))) w') : wpAnyH Tryz.prog md ops Q S (fuel + 2) listed a w := by
  have hw1 : Below w.heap.size w (w.alloc (.cells zero T)) := (Below.refl _ _).alloc (Nat.le_refl _) _
  have hw2 : Below w.heap.size w ((w.alloc (.cells zero T)).alloc (.cells zero T)) := hw1.alloc (by simp) _
  have r1 := RowAt.old (RowAt.new w T zero) (.cells zero T)
  have r2 := RowAt.new (w.alloc (.cells zero T)) T zero
  simp only [World.size_alloc] at r2
  refine wpAnyH_ready hr (by simp) ?_
  refine ready_val2 i (some di) hi (gi _) hdi _ _ (run_alloc1 hoi hz) (hS _ hw1) ?_ ?_
  · refine wpAnyH_ready hri (by simp) ?_
    refine ready_val2 j (some dj) hj (gj _) hdj _ _ (run_alloc1 hoj hz) (hS _ hw2) ?_ AllReadyH.nil
    simp only [World.size_alloc]
    exact h _ w.heap.size (w.heap.size + 1) hw2 r1 r2 (by omega) (by omega) (by omega)
  · refine ready_val2 j (some dj) hj (gj _) hdj _ _ (run_alloc1 hoj hz) (hS _ hw1) ?_ AllReadyH.nil
    refine wpAnyH_ready hrj (by simp) ?_
    refine ready_val2 i (some di) hi (gi _) hdi _ _ (run_alloc1 hoi hz) (hS _ hw2) ?_ AllReadyH.nil
    simp only [World.size_alloc]
    rw [Array.setIfInBounds_comm (xs := listed) true true (Ne.symm hne), put_comm2 _ dj di _ _ (Ne.symm hde)]
    exact h _ (w.heap.size + 1) w.heap.size hw2 r2 r1 (by omega) (by omega) (by omega)
theorem rep_0 : Rep 0 0 zP := ⟨zP_len, by omega, fun i => by rw [zP_get]; exact Int.le_refl _, fun i => by rw [zP_get]; decide, fun i _ => zP_get i, fun h => by omega, vb_zero _ _ zP_get⟩
/-- What bezout answers. -/
def BzC (A B : Nat) (w : World) (e : Ending) (w' : World) : Prop := (∃ c : Cb, e = .returned (.agg c.C) ∧ c.Ok (bz B A 1 0 0 1).1 ∧ c.x = (bz B A 1 0 0 1).2.1 ∧ c.y = (bz B A 1 0 0 1).2.2 ∧ c.x.natAbs < 10 ^ 600 ∧ c.y.natAbs < 10 ^ 600 ∧ (bz B A 1 0 0 1).1 < 10 ^ 600) ∧ Below w.heap.size w w'

set_option maxHeartbeats 8000000 in
set_option maxRecDepth 100000 in
theorem bezout_any {A B k j : Nat} {p q : List Int} (w : World) (hP : Rep A k p) (hQ : Rep B j q) (hA : A < 10 ^ 600) (hB : B < 10 ^ 600) :
    Calls Tryz.prog 12 #[.agg (natC k p), .agg (natC j q)] w fun e w' => BzC A B w e w' := by
  have hz := zero_comb.1
  have hzn := zero_nat.1
  have hzw := zero_whole.1
  have hp := hP.len
  have hq := hQ.len
  have A0 := ((NatAt.new w k p).old (.cells (natC j q) 32)).old (.cells zC 38)
  have B0 := (NatAt.new (w.alloc (.cells (natC k p) 32)) j q).old (.cells zC 38)
  have C0 := RowAt.new ((w.alloc (.cells (natC k p) 32)).alloc (.cells (natC j q) 32)) 38 zC
  have hB0 : Below w.heap.size w (((w.alloc (.cells (natC k p) 32)).alloc (.cells (natC j q) 32)).alloc (.cells zC 38)) := (((Below.refl _ _).alloc (Nat.le_refl _) _).alloc (by first | (simp; done) | (simp; omega)) _).alloc (by first | (simp; done) | (simp; omega)) _
  have hws : (((w.alloc (.cells (natC k p) 32)).alloc (.cells (natC j q) 32)).alloc (.cells zC 38)).heap.size = w.heap.size + 1 + 1 + 1 := by simp
  simp only [World.size_alloc] at B0 C0
  have HP := hide (And.intro hP hQ)
  have HAB := hide (And.intro hA hB)
  have HM : Hid (max A B < 10 ^ 600) := max_lt3 hA hB
  clear hP hQ hA hB
  change ∀ w, (zeroValue 38).run Tryz.prog w = .ok (.agg zC) w at hz
  go_enter Tryz.func12, Tryz.ntmps12
  generalize hw0 : ((w.alloc (.cells (natC k p) 32)).alloc (.cells (natC j q) 32)).alloc (.cells zC 38) = w0 at A0 B0 C0 hB0 hws
  go_wp2_with fail
  clear hw0
  refine (smallWhole_any 1 w0 (by omega) (by omega)).mono ?_
  rintro e w1 ⟨i1, r1, rfl, hR1, hW1⟩
  have hr1 := hR1.len
  have hs1 := hW1.size
  have HR1 := hide hR1
  have A1 := A0.below hW1 (by omega)
  have B1 := B0.below hW1 (by omega)
  have C1 := C0.below hW1 (by omega)
  have V1 : Below w.heap.size w w1 := hB0.trans (hW1.mono (by omega))
  have D1 := WholeAt.new w1 false 0 zP
  clear A0 B0 C0 hB0 hW1 hR1
  rw [show decide ((1 : Int) < 0) = false by decide]
  go_wp2_with (refine store_whole rfl _ _ rfl rfl w1.heap.size false i1 r1 rfl rfl false 0 zP D1 zP_len hr1 ?_; intro w2 hN2 hg2 hs2)
  have A2 := (A1.old (.cells (wholeC false 0 zP) 36)).grown hg2 (by simp; omega)
  have B2 := (B1.old (.cells (wholeC false 0 zP) 36)).grown hg2 (by simp; omega)
  have C2 := (C1.old (.cells (wholeC false 0 zP) 36)).grown hg2 (by simp; omega)
  have V2 : Below w.heap.size w w2 := (V1.alloc V1.size _).grown hg2 (by simp; have := V1.size; omega) (by intro k hk; cases hk; have := V1.size; omega)
  have hs2' : w1.heap.size + 1 = w2.heap.size := by rw [hs2]; simp
  clear A1 B1 C1 V1 D1 hg2 hs2
  refine held_begin (fun w' => NatAt w' w.heap.size k p ∧ NatAt w' (w.heap.size + 1) j q ∧ WholeAt w' w1.heap.size false i1 r1 ∧ RowAt w' (w.heap.size + 1 + 1) 38 zC) (by kernel_rfl) ?_
  have hS : NatAt w2.drew w.heap.size k p ∧ NatAt w2.drew (w.heap.size + 1) j q ∧ WholeAt w2.drew w1.heap.size false i1 r1 ∧ RowAt w2.drew (w.heap.size + 1 + 1) 38 zC := ⟨A2, B2, hN2, C2⟩
  refine held_load 0 (some 11) rfl rfl (by kernel_rfl) (by kernel_rfl) (by kernel_rfl) noPanic_put rfl _ rfl (w.heap.size) rfl k p (fun _ h => h.1) hp hS ?_
  simp only [Act.put, List.setIfInBounds_toArray, List.set_cons_zero, List.set_cons_succ]
  refine held_valS 1 (some 12) rfl rfl (by kernel_rfl) (by kernel_rfl) (by kernel_rfl) noPanic_put rfl (.agg (wholeC false i1 r1)) (fun _ h => run_row_whole _ rfl w1.heap.size rfl false i1 r1 h.2.2.1 hr1) hS ?_
  simp only [Act.put, List.setIfInBounds_toArray, List.set_cons_zero, List.set_cons_succ]
  refine held_val 2 (some 13) rfl rfl (by kernel_rfl) (by kernel_rfl) (by kernel_rfl) noPanic_put rfl (.agg (combC k p false i1 r1 false 0 zP)) (fun _ => run_build2 38 0 1 (.tmp 11) (.tmp 12) rfl _ _ rfl rfl _ (built_comb01 k p false i1 r1 hp hr1)) hS ?_
  simp only [Act.put, List.setIfInBounds_toArray, List.set_cons_zero, List.set_cons_succ]
  refine held_load 3 (some 14) rfl rfl (by kernel_rfl) (by kernel_rfl) (by kernel_rfl) noPanic_put rfl _ rfl (w.heap.size + 1) rfl j q (fun _ h => h.2.1) hq hS ?_
  simp only [Act.put, List.setIfInBounds_toArray, List.set_cons_zero, List.set_cons_succ]
  refine held_valS 4 (some 15) rfl rfl (by kernel_rfl) (by kernel_rfl) (by kernel_rfl) noPanic_put rfl (.agg (wholeC false i1 r1)) (fun _ h => run_row_whole _ rfl w1.heap.size rfl false i1 r1 h.2.2.1 hr1) hS ?_
  simp only [Act.put, List.setIfInBounds_toArray, List.set_cons_zero, List.set_cons_succ]
  refine held_val 5 (some 16) rfl rfl (by kernel_rfl) (by kernel_rfl) (by kernel_rfl) noPanic_put rfl (.agg (combC j q false 0 zP false i1 r1)) (fun _ => run_build2 38 0 2 (.tmp 14) (.tmp 15) rfl _ _ rfl rfl _ (built_comb02 j q false i1 r1 hq hr1)) hS ?_
  simp only [Act.put, List.setIfInBounds_toArray, List.set_cons_zero, List.set_cons_succ]
  refine alloc_two 6 7 6 7 rfl rfl rfl rfl rfl rfl (fun _ => rfl) (fun _ => rfl) (by kernel_rfl) (by kernel_rfl) (by kernel_rfl) (by decide) (by decide) hz (fun w' h => ⟨hS.1.below h (by show _ < w2.heap.size; omega), hS.2.1.below h (by show _ < w2.heap.size; omega), RowAt.below hS.2.2.1 h (by show _ < w2.heap.size; omega), RowAt.below hS.2.2.2 h (by show _ < w2.heap.size; omega)⟩) ?_
  intro w3 b6 b7 hW3 hR6 hR7 hne h6 h7
  simp only [Act.put, List.setIfInBounds_toArray, List.set_cons_zero, List.set_cons_succ]
  have hs3 : w2.heap.size ≤ w3.heap.size := hW3.size
  have hS3 : NatAt w3 w.heap.size k p ∧ NatAt w3 (w.heap.size + 1) j q ∧ WholeAt w3 w1.heap.size false i1 r1 ∧ RowAt w3 (w.heap.size + 1 + 1) 38 zC := ⟨hS.1.below hW3 (by show _ < w2.heap.size; omega), hS.2.1.below hW3 (by show _ < w2.heap.size; omega), RowAt.below hS.2.2.1 hW3 (by show _ < w2.heap.size; omega), RowAt.below hS.2.2.2 hW3 (by show _ < w2.heap.size; omega)⟩
  have h6' : w2.heap.size ≤ b6 := h6
  have h7' : w2.heap.size ≤ b7 := h7
  have hok6 : (Cb.mk k p 1 i1 r1 0 0 zP).Ok A := ⟨HP.out.1, HR1.out, rep_0⟩
  have hok7 : (Cb.mk j q 0 0 zP 1 i1 r1).Ok B := ⟨HP.out.2, rep_0, HR1.out⟩
  refine held_store_cb 8 (by kernel_rfl) rfl rfl _ _ rfl rfl b6 (Cb.mk k p 1 i1 r1 0 0 zP) A rfl rfl zC hR6 zC_size hok6 ?_
  intro w4 hN4 hg4 hs4
  have hS4 : NatAt w4 w.heap.size k p ∧ NatAt w4 (w.heap.size + 1) j q ∧ WholeAt w4 w1.heap.size false i1 r1 ∧ RowAt w4 (w.heap.size + 1 + 1) 38 zC := ⟨hS3.1.grown hg4 (by simp; omega), hS3.2.1.grown hg4 (by simp; omega), RowAt.grown hS3.2.2.1 hg4 (by simp; omega), RowAt.grown hS3.2.2.2 hg4 (by simp; omega)⟩
  refine ⟨hS4, ?_⟩
  refine held_store_cb 9 (by kernel_rfl) rfl rfl _ _ rfl rfl b7 (Cb.mk j q 0 0 zP 1 i1 r1) B rfl rfl zC (RowAt.grown hR7 hg4 (by simp; omega)) zC_size hok7 ?_
  intro w5 hN5 hg5 hs5
  have hS5 : NatAt w5 w.heap.size k p ∧ NatAt w5 (w.heap.size + 1) j q ∧ WholeAt w5 w1.heap.size false i1 r1 ∧ RowAt w5 (w.heap.size + 1 + 1) 38 zC := ⟨hS4.1.grown hg5 (by simp; omega), hS4.2.1.grown hg5 (by simp; omega), RowAt.grown hS4.2.2.1 hg5 (by simp; omega), RowAt.grown hS4.2.2.2 hg5 (by simp; omega)⟩
  refine ⟨hS5, ?_⟩
  refine wpAnyH_done (by kernel_rfl) ?_ _
  refine NoPanic.normal ?_
  have hV5 : Below w.heap.size w w5 := ((V2.drew.trans (hW3.mono V2.size)).grown hg4 (by have := V2.size; omega) (by intro k hk; cases hk; have := V2.size; omega)).grown hg5 (by have := V2.size; omega) (by intro k hk; cases hk; have := V2.size; omega)
  have hC5 : Cb.At w5 b6 (Cb.mk k p 1 i1 r1 0 0 zP) := RowAt.grown hN4 hg5 (by simp; omega)
  have hZ5 := hS5.2.2.2
  have H1 : Hid ((1 : Int).natAbs < 10 ^ 600 ∧ (0 : Int).natAbs < 10 ^ 600) := ⟨one_lt_600, Nat.lt_trans (by decide) one_lt_600⟩
  have hb6l : b6 < w5.heap.size := RowAt.lt hC5
  have hb7l : b7 < w5.heap.size := RowAt.lt hN5
  have hb6 : w.heap.size + 1 + 1 < b6 := by omega
  have hb7 : w.heap.size + 1 + 1 < b7 := by omega
  have HOK := hide (And.intro hok6 hok7)
  clear hS hS3 hS4 hS5 hR6 hR7 hW3 hg4 hs4 hg5 hs5 V2 A2 B2 C2 hN2 hN4 h6 h7 h6' h7' hs1 hs2' hws hok6 hok7 hs3
  go_wp2_with fail
  go_loopg [] B (fun g wr => ∃ (r : Nat) (c d : Cb), Hid (BzOk A B r g c.x c.y d.x d.y) ∧ Hid (c.Ok r ∧ d.Ok g) ∧ Hid (c.x.natAbs < 10 ^ 600 ∧ c.y.natAbs < 10 ^ 600 ∧ d.x.natAbs < 10 ^ 600 ∧ d.y.natAbs < 10 ^ 600) ∧ Cb.At wr b6 c ∧ Cb.At wr b7 d ∧ RowAt wr (w.heap.size + 1 + 1) 38 zC ∧ Below w.heap.size w wr)
  case atStart => exact ⟨A, Cb.mk k p 1 i1 r1 0 0 zP, Cb.mk j q 0 0 zP 1 i1 r1, BzOk.start A B, HOK.out, ⟨H1.out.1, H1.out.2, H1.out.2, H1.out.1⟩, hC5, hN5, hZ5, hV5⟩
  case round =>
    obtain ⟨r, c, d, HO, HCD, HBD, hC, hD, hZ, hV⟩ := hrel
    clear hC5 hN5 hZ5 hV5 HOK
    have hu := hD.comb.used
    have hcl := HCD.out.1.r.len
    have hdl := HCD.out.2.r.len
    have hc6 := RowAt.lt hC
    have hd7 := RowAt.lt hD
    have hvs := hV.size
    by_cases h0 : d.k = 0
    · have hg0 : gk = 0 := HCD.out.2.r.zero_iff.1 h0
      have HE : Hid (c.Ok (bz B A 1 0 0 1).1 ∧ c.x = (bz B A 1 0 0 1).2.1 ∧ c.y = (bz B A 1 0 0 1).2.2 ∧ c.x.natAbs < 10 ^ 600 ∧ c.y.natAbs < 10 ^ 600 ∧ (bz B A 1 0 0 1).1 < 10 ^ 600) := by
        have h5 := HO.out.2.2.2.2
        rw [hg0, bz_end] at h5
        rw [← h5]
        exact ⟨HCD.out.1, rfl, rfl, HBD.out.1, HBD.out.2.1, Nat.lt_of_le_of_lt HO.out.2.2.1 HM.out⟩
      have hle : ¬ (0 : Int) < (d.k : Int) := by omega
      clear h0 hg0
      go_wp2_with (first | (refine load_cb rfl (.tmp 6) rfl b6 rfl c r hC HCD.out.1 ?_) | (refine store_cb rfl (.tmp 4) _ rfl rfl (w.heap.size + 1 + 1) c r rfl rfl zC hZ zC_size HCD.out.1 ?_; intro wz hNz hgz hsz))
      refine bodyPost_ret (v := .agg c.C) (results_cell_row Tryz.results12 _ _ (w.heap.size + 1 + 1) 38 c.C (0, 0) _ rfl hNz Tryz.underlying38 rfl HCD.out.1.info) rfl ⟨⟨c, rfl, HE.out⟩, hV.grown hgz (by omega) (by intro k hk; cases hk; omega)⟩
    · have hpk : (0 : Int) < (d.k : Int) := by omega
      have hgn : gk ≠ 0 := fun h => h0 (HCD.out.2.r.zero_iff.2 h)
      have hpos : 0 < gk := Nat.pos_of_ne_zero hgn
      have HST := hide (HO.out.step hgn)
      have bx := HO.out.1.bound hpos
      have by' := HO.out.2.1.bound hpos
      have HB2 : Hid ((c.x - ((r / gk : Nat) : Int) * d.x).natAbs < 10 ^ 600 ∧ (c.y - ((r / gk : Nat) : Int) * d.y).natAbs < 10 ^ 600) := by
        simp only [Int.natAbs_natCast] at bx by'
        exact ⟨Nat.lt_of_le_of_lt bx.1 HAB.out.2, Nat.lt_of_le_of_lt by'.1 HAB.out.1⟩
      have HLT : Hid (r % gk < gk) := Nat.mod_lt _ hpos
      have hr600 := Nat.lt_of_le_of_lt HO.out.2.2.1 HM.out
      have hck : c.k ≤ 100 := HCD.out.1.r.small hr600
      have hck1 : c.k1 ≤ 100 := HCD.out.1.x.small HBD.out.1
      have hck2 : c.k2 ≤ 100 := HCD.out.1.y.small HBD.out.2.1
      have hdk1 : d.k1 ≤ 100 := HCD.out.2.x.small HBD.out.2.2.1
      have hdk2 : d.k2 ≤ 100 := HCD.out.2.y.small HBD.out.2.2.2
      have hdk0 : 0 < d.k := by omega
      have HR600 := hide hr600
      clear h0 hgn hpos bx by' hr600
      go_wp2_with (first | (refine load_mid_nat rfl (.tmp 22) rfl b6 0 rfl c.k c.p hC.comb.sum hcl ?_) | (refine load_mid_nat rfl (.tmp 24) rfl b7 0 rfl d.k d.p hD.comb.sum hdl ?_))
      refine (divide_any wr HCD.out.1.r HCD.out.2.r hdk0 (by omega)).mono ?_
      rintro e x1 ⟨qi, ti, qq, tt, rfl, hQ1, hT1, hX1⟩
      have hql := hQ1.len
      have htl := hT1.len
      have hqi : qi ≤ 100 := hQ1.small (Nat.lt_of_le_of_lt (Nat.div_le_self _ _) HR600.out)
      have HQT := hide (And.intro hQ1 hT1)
      have hsx1 := hX1.size
      have hC1 := RowAt.below hC hX1 (by omega)
      have hD1 := RowAt.below hD hX1 (by omega)
      have hZ1 := RowAt.below hZ hX1 (by omega)
      have hV1 : Below w.heap.size w x1 := hV.trans (hX1.mono hvs)
      have E1 := (NatAt.new x1 0 zP).old (.cells (natC 0 zP) 32)
      have F1 := NatAt.new (x1.alloc (.cells (natC 0 zP) 32)) 0 zP
      simp only [World.size_alloc] at F1
      clear hC hD hZ hV hX1 hQ1 hT1
      go_wp2_with (first | (refine store_nat rfl (.tmp 8) _ rfl rfl x1.heap.size qi qq rfl rfl 0 zP E1 zP_len hql ?_; intro x2 hN2 hg2 hs2) | (refine store_nat rfl (.tmp 9) _ rfl rfl (x1.heap.size + 1) ti tt rfl rfl 0 zP (F1.grown hg2 (by simp)) zP_len htl ?_; intro x3 hN3 hg3 hs3))
      have hC3 : Cb.At x3 b6 c := RowAt.grown (RowAt.grown (RowAt.old (RowAt.old hC1 _) _) hg2 (by simp; omega)) hg3 (by simp; omega)
      have hD3 : Cb.At x3 b7 d := RowAt.grown (RowAt.grown (RowAt.old (RowAt.old hD1 _) _) hg2 (by simp; omega)) hg3 (by simp; omega)
      have hZ3 : RowAt x3 (w.heap.size + 1 + 1) 38 zC := RowAt.grown (RowAt.grown (RowAt.old (RowAt.old hZ1 _) _) hg2 (by simp; omega)) hg3 (by simp; omega)
      have hQ3 : NatAt x3 x1.heap.size qi qq := hN2.grown hg3 (by simp)
      have hV3 : Below w.heap.size w x3 := (((hV1.alloc hV1.size _).alloc (by simp; have := hV1.size; omega) _).grown hg2 (by simp; have := hV1.size; omega) (by intro k hk; cases hk; have := hV1.size; omega)).grown hg3 (by rw [hs2]; simp; have := hV1.size; omega) (by intro k hk; cases hk; have := hV1.size; omega)
      have hs3' : x1.heap.size + 1 + 1 = x3.heap.size := by rw [hs3, hs2]; simp
      clear hC1 hD1 hZ1 hV1 E1 F1 hN2 hg2 hs2 hg3 hs3
      refine many_begin [(17, fun w' => Cb.At w' b6 c), (18, fun w' => Cb.At w' b7 d)] (fun w' => NatAt w' x1.heap.size qi qq ∧ NatAt w' (x1.heap.size + 1) ti tt) (by kernel_rfl) ?_
      have hS : Cb.At x3.drew b6 c ∧ Cb.At x3.drew b7 d ∧ NatAt x3.drew x1.heap.size qi qq ∧ NatAt x3.drew (x1.heap.size + 1) ti tt := ⟨hC3, hD3, hQ3, hN3⟩
      refine BL.many_val 0 (some 29) rfl rfl (by kernel_rfl) (by kernel_rfl) (by kernel_rfl) [18] (by kernel_rfl) (not_late 0 (by decide) (by decide)) noPanic_put rfl (.agg d.C) (fun _ h => run_rowT (.tmp 7) 38 rfl b7 rfl d.C _ (h.2 (18, fun w' => Cb.At w' b7 d) (by simp) (by simp)) Tryz.underlying38 HCD.out.2.info) (late2 hS.2.2 (.inr hS.1) (.inr hS.2.1)) ?_
      simp only [Act.put, List.setIfInBounds_toArray, List.set_cons_zero, List.set_cons_succ]
      refine BL.many_val 1 (some 30) rfl rfl (by kernel_rfl) (by kernel_rfl) (by kernel_rfl) [] (by kernel_rfl) (not_late 1 (by decide) (by decide)) noPanic_put rfl (.agg (natC ti tt)) (fun _ h => run_nat0 _ rfl (x1.heap.size + 1) rfl ti tt htl h.1.2) (late2 hS.2.2 (.inr hS.1) (.inr hS.2.1)) ?_
      simp only [Act.put, List.setIfInBounds_toArray, List.set_cons_zero, List.set_cons_succ]
      refine BL.many_val 2 (some 31) rfl rfl (by kernel_rfl) (by kernel_rfl) (by kernel_rfl) [] (by kernel_rfl) (not_late 2 (by decide) (by decide)) noPanic_put rfl (.pointer (some ⟨b6, 205, none⟩)) (fun _ _ => by go_simp) (late2 hS.2.2 (.inr hS.1) (.inr hS.2.1)) ?_
      simp only [Act.put, List.setIfInBounds_toArray, List.set_cons_zero, List.set_cons_succ]
      refine BL.many_val 3 (some 32) rfl rfl (by kernel_rfl) (by kernel_rfl) (by kernel_rfl) [17] (by kernel_rfl) (not_late 3 (by decide) (by decide)) noPanic_put rfl (.agg (wholeC (decide (c.x < 0)) c.k1 c.p1)) (fun _ h => run_mid_whole _ rfl b6 205 rfl _ c.k1 c.p1 (Cb.At.comb (h.2 (17, fun w' => Cb.At w' b6 c) (by simp) (by simp)) |>.x hcl) HCD.out.1.x.len) (late2 hS.2.2 (.inr hS.1) (.inr hS.2.1)) ?_
      simp only [Act.put, List.setIfInBounds_toArray, List.set_cons_zero, List.set_cons_succ]
      refine BL.many_val 4 (some 33) rfl rfl (by kernel_rfl) (by kernel_rfl) (by kernel_rfl) [] (by kernel_rfl) (not_late 4 (by decide) (by decide)) noPanic_put rfl (.pointer (some ⟨b7, 205, none⟩)) (fun _ _ => by go_simp) (late2 hS.2.2 (.inr hS.1) (.inr hS.2.1)) ?_
      simp only [Act.put, List.setIfInBounds_toArray, List.set_cons_zero, List.set_cons_succ]
      refine BL.many_val 5 (some 34) rfl rfl (by kernel_rfl) (by kernel_rfl) (by kernel_rfl) [18] (by kernel_rfl) (not_late 5 (by decide) (by decide)) noPanic_put rfl (.agg (wholeC (decide (d.x < 0)) d.k1 d.p1)) (fun _ h => run_mid_whole _ rfl b7 205 rfl _ d.k1 d.p1 (Cb.At.comb (h.2 (18, fun w' => Cb.At w' b7 d) (by simp) (by simp)) |>.x hdl) HCD.out.2.x.len) (late2 hS.2.2 (.inr hS.1) (.inr hS.2.1)) ?_
      simp only [Act.put, List.setIfInBounds_toArray, List.set_cons_zero, List.set_cons_succ]
      refine BL.many_val 6 (some 35) rfl rfl (by kernel_rfl) (by kernel_rfl) (by kernel_rfl) [] (by kernel_rfl) (not_late 6 (by decide) (by decide)) noPanic_put rfl (.agg (natC qi qq)) (fun _ h => run_nat0 _ rfl x1.heap.size rfl qi qq hql h.1.1) (late2 hS.2.2 (.inr hS.1) (.inr hS.2.1)) ?_
      simp only [Act.put, List.setIfInBounds_toArray, List.set_cons_zero, List.set_cons_succ]
      refine BL.many_val 9 (some 38) rfl rfl (by kernel_rfl) (by kernel_rfl) (by kernel_rfl) [] (by kernel_rfl) (not_late 9 (by decide) (by decide)) noPanic_put rfl (.pointer (some ⟨b6, 411, none⟩)) (fun _ _ => by go_simp) (late2 hS.2.2 (.inr hS.1) (.inr hS.2.1)) ?_
      simp only [Act.put, List.setIfInBounds_toArray, List.set_cons_zero, List.set_cons_succ]
      refine BL.many_val 10 (some 39) rfl rfl (by kernel_rfl) (by kernel_rfl) (by kernel_rfl) [17] (by kernel_rfl) (not_late 10 (by decide) (by decide)) noPanic_put rfl (.agg (wholeC (decide (c.y < 0)) c.k2 c.p2)) (fun _ h => run_mid_whole _ rfl b6 411 rfl _ c.k2 c.p2 (Cb.At.comb (h.2 (17, fun w' => Cb.At w' b6 c) (by simp) (by simp)) |>.y hcl HCD.out.1.x.len) HCD.out.1.y.len) (late2 hS.2.2 (.inr hS.1) (.inr hS.2.1)) ?_
      simp only [Act.put, List.setIfInBounds_toArray, List.set_cons_zero, List.set_cons_succ]
      refine BL.many_val 11 (some 40) rfl rfl (by kernel_rfl) (by kernel_rfl) (by kernel_rfl) [] (by kernel_rfl) (not_late 11 (by decide) (by decide)) noPanic_put rfl (.pointer (some ⟨b7, 411, none⟩)) (fun _ _ => by go_simp) (late2 hS.2.2 (.inr hS.1) (.inr hS.2.1)) ?_
      simp only [Act.put, List.setIfInBounds_toArray, List.set_cons_zero, List.set_cons_succ]
      refine BL.many_val 12 (some 41) rfl rfl (by kernel_rfl) (by kernel_rfl) (by kernel_rfl) [18] (by kernel_rfl) (not_late 12 (by decide) (by decide)) noPanic_put rfl (.agg (wholeC (decide (d.y < 0)) d.k2 d.p2)) (fun _ h => run_mid_whole _ rfl b7 411 rfl _ d.k2 d.p2 (Cb.At.comb (h.2 (18, fun w' => Cb.At w' b7 d) (by simp) (by simp)) |>.y hdl HCD.out.2.x.len) HCD.out.2.y.len) (late2 hS.2.2 (.inr hS.1) (.inr hS.2.1)) ?_
      simp only [Act.put, List.setIfInBounds_toArray, List.set_cons_zero, List.set_cons_succ]
      refine BL.many_val 13 (some 42) rfl rfl (by kernel_rfl) (by kernel_rfl) (by kernel_rfl) [] (by kernel_rfl) (not_late 13 (by decide) (by decide)) noPanic_put rfl (.agg (natC qi qq)) (fun _ h => run_nat0 _ rfl x1.heap.size rfl qi qq hql h.1.1) (late2 hS.2.2 (.inr hS.1) (.inr hS.2.1)) ?_
      simp only [Act.put, List.setIfInBounds_toArray, List.set_cons_zero, List.set_cons_succ]
      refine many_call 7 (some 36) (by kernel_rfl) rfl rfl rfl 29 #[.agg (wholeC (decide (d.x < 0)) d.k1 d.p1), .agg (natC qi qq)] (by go_simp) _ (scaled_any (decide (d.x < 0)) x3.drew HCD.out.2.x HQT.out.1 hdk1 hqi) ?_
      rintro e x4 ⟨i4, r4, rfl, hR4, hX4⟩
      have hsx4 : x3.heap.size ≤ x4.heap.size := hX4.size
      have hS4 : Cb.At x4 b6 c ∧ Cb.At x4 b7 d ∧ NatAt x4 x1.heap.size qi qq ∧ NatAt x4 (x1.heap.size + 1) ti tt := ⟨RowAt.below hS.1 hX4 (by show _ < x3.heap.size; omega), RowAt.below hS.2.1 hX4 (by show _ < x3.heap.size; omega), hS.2.2.1.below hX4 (by show _ < x3.heap.size; omega), hS.2.2.2.below hX4 (by show _ < x3.heap.size; omega)⟩
      have hi4 : i4 ≤ 201 := Nat.le_trans (HCD.out.2.x.mul_used HQT.out.1 hR4) (by omega)
      have hv4 : sg (decide (d.x < 0)) (d.x.natAbs * (r / gk)) = ((r / gk : Nat) : Int) * d.x := by rw [sg_mulN, sg_abs_of, Int.mul_comm]
      refine ⟨_, rfl, (late2 hS4.2.2 (.inr hS4.1) (.inr hS4.2.1)), ?_⟩
      simp only [Act.put, List.setIfInBounds_toArray, List.set_cons_zero, List.set_cons_succ]
      refine many_call 8 (some 37) (by kernel_rfl) rfl rfl rfl 28 #[.agg (wholeC (decide (c.x < 0)) c.k1 c.p1), .agg (wholeC (decide (d.x < 0)) i4 r4)] (by go_simp) _ (less_any c.x (((r / gk : Nat) : Int) * d.x) (decide (d.x < 0)) x4 HCD.out.1.x hR4 hv4 (by omega) hi4) ?_
      rintro e x5 ⟨i5, r5, rfl, hR5, hX5⟩
      have hsx5 := hX5.size
      have hS5 : Cb.At x5 b6 c ∧ Cb.At x5 b7 d ∧ NatAt x5 x1.heap.size qi qq ∧ NatAt x5 (x1.heap.size + 1) ti tt := ⟨RowAt.below hS4.1 hX5 (by omega), RowAt.below hS4.2.1 hX5 (by omega), hS4.2.2.1.below hX5 (by omega), hS4.2.2.2.below hX5 (by omega)⟩
      refine ⟨_, rfl, (late2 hS5.2.2 (.inr hS5.1) (.inr hS5.2.1)), ?_⟩
      simp only [Act.put, List.setIfInBounds_toArray, List.set_cons_zero, List.set_cons_succ]
      refine many_call 14 (some 43) (by kernel_rfl) rfl rfl rfl 29 #[.agg (wholeC (decide (d.y < 0)) d.k2 d.p2), .agg (natC qi qq)] (by go_simp) _ (scaled_any (decide (d.y < 0)) x5 HCD.out.2.y HQT.out.1 hdk2 hqi) ?_
      rintro e x6 ⟨i6, r6, rfl, hR6, hX6⟩
      have hsx6 := hX6.size
      have hS6 : Cb.At x6 b6 c ∧ Cb.At x6 b7 d ∧ NatAt x6 x1.heap.size qi qq ∧ NatAt x6 (x1.heap.size + 1) ti tt := ⟨RowAt.below hS5.1 hX6 (by omega), RowAt.below hS5.2.1 hX6 (by omega), hS5.2.2.1.below hX6 (by omega), hS5.2.2.2.below hX6 (by omega)⟩
      have hi6 : i6 ≤ 201 := Nat.le_trans (HCD.out.2.y.mul_used HQT.out.1 hR6) (by omega)
      have hv6 : sg (decide (d.y < 0)) (d.y.natAbs * (r / gk)) = ((r / gk : Nat) : Int) * d.y := by rw [sg_mulN, sg_abs_of, Int.mul_comm]
      refine ⟨_, rfl, (late2 hS6.2.2 (.inr hS6.1) (.inr hS6.2.1)), ?_⟩
      simp only [Act.put, List.setIfInBounds_toArray, List.set_cons_zero, List.set_cons_succ]
      refine many_call 15 (some 44) (by kernel_rfl) rfl rfl rfl 28 #[.agg (wholeC (decide (c.y < 0)) c.k2 c.p2), .agg (wholeC (decide (d.y < 0)) i6 r6)] (by go_simp) _ (less_any c.y (((r / gk : Nat) : Int) * d.y) (decide (d.y < 0)) x6 HCD.out.1.y hR6 hv6 (by omega) hi6) ?_
      rintro e x7 ⟨i7, r7, rfl, hR7, hX7⟩
      have hsx7 := hX7.size
      have hS7 : Cb.At x7 b6 c ∧ Cb.At x7 b7 d ∧ NatAt x7 x1.heap.size qi qq ∧ NatAt x7 (x1.heap.size + 1) ti tt := ⟨RowAt.below hS6.1 hX7 (by omega), RowAt.below hS6.2.1 hX7 (by omega), hS6.2.2.1.below hX7 (by omega), hS6.2.2.2.below hX7 (by omega)⟩
      have hokE : (Cb.mk ti tt (c.x - ((r / gk : Nat) : Int) * d.x) i5 r5 (c.y - ((r / gk : Nat) : Int) * d.y) i7 r7).Ok (r % gk) := ⟨HQT.out.2, hR5, hR7⟩
      refine ⟨_, rfl, (late2 hS7.2.2 (.inr hS7.1) (.inr hS7.2.1)), ?_⟩
      simp only [Act.put, List.setIfInBounds_toArray, List.set_cons_zero, List.set_cons_succ]
      refine BL.many_val 16 (some 45) rfl rfl (by kernel_rfl) (by kernel_rfl) (by kernel_rfl) [] (by kernel_rfl) (not_late 16 (by decide) (by decide)) noPanic_put rfl (.agg (Cb.mk ti tt (c.x - ((r / gk : Nat) : Int) * d.x) i5 r5 (c.y - ((r / gk : Nat) : Int) * d.y) i7 r7).C) (fun _ _ => run_build3 38 0 1 2 (.tmp 30) (.tmp 37) (.tmp 44) rfl _ _ _ rfl rfl rfl _ (built_comb3 ti tt _ i5 r5 _ i7 r7 htl hR5.len hR7.len)) (late2 hS7.2.2 (.inr hS7.1) (.inr hS7.2.1)) ?_
      simp only [Act.put, List.setIfInBounds_toArray, List.set_cons_zero, List.set_cons_succ]
      refine many_store_cb 17 (by kernel_rfl) rfl rfl _ _ rfl rfl b6 d gk rfl rfl c.C hS7.1 HCD.out.1.size HCD.out.2 ?_
      intro x8 hN8 hg8 hs8
      refine ⟨late2 ⟨hS7.2.2.1.grown hg8 (by simp; omega), hS7.2.2.2.grown hg8 (by simp; omega)⟩ (.inl rfl) (.inr (RowAt.grown hS7.2.1 hg8 (by simp; omega))), ?_⟩
      refine many_store_cb 18 (by kernel_rfl) rfl rfl _ _ rfl rfl b7 (Cb.mk ti tt (c.x - ((r / gk : Nat) : Int) * d.x) i5 r5 (c.y - ((r / gk : Nat) : Int) * d.y) i7 r7) (r % gk) rfl rfl d.C (RowAt.grown hS7.2.1 hg8 (by simp; omega)) HCD.out.2.size hokE ?_
      intro x9 hN9 hg9 hs9
      refine ⟨late2 ⟨(hS7.2.2.1.grown hg8 (by simp; omega)).grown hg9 (by simp; omega), (hS7.2.2.2.grown hg8 (by simp; omega)).grown hg9 (by simp; omega)⟩ (.inl rfl) (.inl rfl), ?_⟩
      refine BL.many_done (by kernel_rfl) ?_ _
      refine NoPanic.normal ?_
      have hXX : Below x3.heap.size x3 x7 := (((⟨hX4.os, hX4.tape, hX4.output, hX4.size, hX4.block⟩ : Below x3.heap.size x3 x4).trans (hX5.mono hsx4)).trans (hX6.mono (by omega))).trans (hX7.mono (by omega))
      have hZ9 : RowAt x9 (w.heap.size + 1 + 1) 38 zC := RowAt.grown (RowAt.grown (RowAt.below hZ3 hXX (by omega)) hg8 (by simp; omega)) hg9 (by simp; omega)
      have hC9 : Cb.At x9 b6 d := RowAt.grown hN8 hg9 (by simp; omega)
      have hV9 : Below w.heap.size w x9 := ((hV3.trans (hXX.mono hV3.size)).grown hg8 (by have := hV3.size; omega) (by intro k hk; cases hk; omega)).grown hg9 (by rw [hs8]; have := hV3.size; omega) (by intro k hk; cases hk; omega)
      have HE := hide hokE
      clear hS hS4 hS5 hS6 hS7 hX4 hX5 hX6 hX7 hXX hR4 hR5 hR6 hR7 hg8 hg9 hZ3 hV3 hC3 hD3 hQ3 hN3 hokE hv4 hv6
      go_wp2
      go_roundg (r % gk)
      case measure => exact HLT.out
      case rel => exact ⟨gk, d, _, HST, ⟨HCD.out.2, HE.out⟩, ⟨HBD.out.2.2.1, HBD.out.2.2.2, HB2.out.1, HB2.out.2⟩, hC9, hN9, hZ9, hV9⟩
end Go.Proofs.YtmfpnbmfcoahbaaGreatDoor

/-
  What spec.BezoutNat and impl.BezoutNat answer.
-/
namespace Go.Proofs.YtmfpnbmfcoahbaaGreatDoor
open Go.RowKit
set_option linter.unusedVariables false

theorem bz_no {a b : ByteArray} (h : bzOk a b = false) : Hid (BzAns a b (.returned (.tuple #[.string ⟨#[]⟩, .string ⟨#[]⟩, .string ⟨#[]⟩, .bool false]))) := .inr ⟨h, rfl⟩
set_option maxHeartbeats 2000000 in
set_option maxRecDepth 100000 in
theorem specBezout_any (a b : ByteArray) (w : World) (hsa : a.size ≤ maxLen) (hsb : b.size ≤ maxLen) :
    Calls Tryz.prog 6 #[.string a, .string b] w fun e w' => BzAns a b e ∧ Below w.heap.size w w' := by
  cases hg : (goodB a.data.toList && goodB b.data.toList) with
  | false =>
    have HN := bz_no (a := a) (b := b) (by unfold bzOk; rw [hg]; rfl)
    have HG := hideT hg
    clear hg
    go_enter Tryz.func6, Tryz.ntmps6
    go_wp2_with fail
    refine (l1Both_any a b _ hsa hsb).mono ?_
    rintro e w' ⟨rfl, rfl⟩
    rw [HG.out]
    go_wp2
    (try simp only [Exit.inBlock, Exit.then]); refine bodyPost_ret (results_tmp4 rfl _ _ _) rfl ?_
    exact ⟨HN.out, Below.refl _ _⟩
  | true =>
    have HG := hideT hg
    have hg' := hg
    simp only [Bool.and_eq_true] at hg'
    obtain ⟨hga, hgb⟩ := hg'
    have za := (Tx.bytes (s := a) ⟨good_canon hga, rfl⟩ [48] (by decide))
    have zb := (Tx.bytes (s := b) ⟨good_canon hgb, rfl⟩ [48] (by decide))
    rw [show dval [48] = 0 by decide] at za zb
    have HT : Hid (Tx a (dval a.data.toList) ∧ Tx b (dval b.data.toList) ∧ dval a.data.toList < 10 ^ 600 ∧ dval b.data.toList < 10 ^ 600) := ⟨⟨good_canon hga, rfl⟩, ⟨good_canon hgb, rfl⟩, good_lt hga, good_lt hgb⟩
    by_cases ha0 : dval a.data.toList = 0
    · by_cases hb0 : dval b.data.toList = 0
      · have HN := bz_no (a := a) (b := b) (by unfold bzOk; rw [decide_eq_true ha0, decide_eq_true hb0]; simp)
        rw [decide_eq_true ha0] at za
        rw [decide_eq_true hb0] at zb
        clear hg hga hgb ha0 hb0
        go_enter Tryz.func6, Tryz.ntmps6
        go_wp2_with fail
        refine (l1Both_any a b _ hsa hsb).mono ?_
        rintro e w' ⟨rfl, rfl⟩
        rw [HG.out]
        go_wp2
        (try simp only [Exit.inBlock, Exit.then]); refine bodyPost_ret (results_tmp4 rfl _ _ _) rfl ?_
        exact ⟨HN.out, Below.refl _ _⟩
      · have HOK : Hid (bzOk a b = true) := by unfold Hid bzOk; rw [hg, decide_eq_false hb0]; simp
        rw [decide_eq_true ha0] at za
        rw [decide_eq_false hb0] at zb
        clear hg hga hgb ha0 hb0
        go_enter Tryz.func6, Tryz.ntmps6
        go_wp2_with fail
        refine (l1Both_any a b _ hsa hsb).mono ?_
        rintro e w' ⟨rfl, rfl⟩
        rw [HG.out]
        go_wp2_with fail
        refine (laBezout_any _ HT.out.1 HT.out.2.1 HT.out.2.2.1 HT.out.2.2.2).mono ?_
        rintro e w1 ⟨⟨s, t, u, rfl, h1, h2, h3⟩, hW1⟩
        have HA : Hid (BzAns a b (.returned (.tuple #[.string s, .string t, .string u, .bool true]))) := .inl ⟨HOK.out, s, t, u, rfl, h1, h2, h3⟩
        clear h1 h2 h3
        go_wp2
        (try simp only [Exit.inBlock, Exit.then]); refine bodyPost_ret (results_tmp4 rfl _ _ _) rfl ?_
        exact ⟨HA.out, hW1⟩
    · have HOK : Hid (bzOk a b = true) := by unfold Hid bzOk; rw [hg, decide_eq_false ha0]; simp
      rw [decide_eq_false ha0] at za
      clear hg hga hgb ha0
      go_enter Tryz.func6, Tryz.ntmps6
      go_wp2_with fail
      refine (l1Both_any a b _ hsa hsb).mono ?_
      rintro e w' ⟨rfl, rfl⟩
      rw [HG.out]
      go_wp2_with fail
      refine (laBezout_any _ HT.out.1 HT.out.2.1 HT.out.2.2.1 HT.out.2.2.2).mono ?_
      rintro e w1 ⟨⟨s, t, u, rfl, h1, h2, h3⟩, hW1⟩
      have HA : Hid (BzAns a b (.returned (.tuple #[.string s, .string t, .string u, .bool true]))) := .inl ⟨HOK.out, s, t, u, rfl, h1, h2, h3⟩
      clear h1 h2 h3
      go_wp2
      (try simp only [Exit.inBlock, Exit.then]); refine bodyPost_ret (results_tmp4 rfl _ _ _) rfl ?_
      exact ⟨HA.out, hW1⟩

theorem WT.of_whole {s : ByteArray} {z : Int} (hz : z.natAbs < 10 ^ 600) (h : WholeR 10 (decide (z < 0)) z.natAbs s) : WT s z := by
  obtain ⟨t, h1, h2⟩ := h
  refine ⟨hz, ?_⟩
  obtain ⟨hc, hv⟩ := dec_canon z.natAbs
  have e : t = ⟨(Lib.decDigits z.natAbs).toArray⟩ := h1.inj (InRad.dec (s := ⟨(Lib.decDigits z.natAbs).toArray⟩) hc hv)
  rw [h2, e]
  by_cases h0 : z < 0
  · rw [if_pos h0, decide_eq_true h0]; rfl
  · rw [if_neg h0, decide_eq_false h0]; rfl

set_option maxHeartbeats 4000000 in
set_option maxRecDepth 100000 in
theorem implBezout_any (a b : ByteArray) (w : World) (hsa : a.size ≤ maxLen) (hsb : b.size ≤ maxLen) (hT : Tab w.heap.size w) :
    Calls Tryz.prog 5 #[.string a, .string b] w fun e w' => BzAns a b e ∧ Below w.heap.size w w' := by
  have hz := zero_nat.1
  have hzc := zero_comb.1
  change ∀ w, (zeroValue 38).run Tryz.prog w = .ok (.agg zC) w at hzc
  have HT : Hid (Tab w.heap.size w) := hT
  clear hT
  go_enter Tryz.func5, Tryz.ntmps5
  go_wp2_with fail
  refine (readNats_any a b _ hsa hsb).mono ?_
  rintro e w1 ⟨k, m, p, q, oa, ob, rfl, hRa, hRb, hW1⟩
  have hp := hRa.len
  have hq := hRb.len
  have hs1 := hW1.size
  have A := (NatAt.new w1 0 zP).old (.cells (natC 0 zP) 32)
  have B := NatAt.new (w1.alloc (.cells (natC 0 zP) 32)) 0 zP
  have hB : Below w.heap.size w ((w1.alloc (.cells (natC 0 zP) 32)).alloc (.cells (natC 0 zP) 32)) := (hW1.alloc (by omega) _).alloc (by simp; omega) _
  simp only [World.size_alloc] at B
  have hok : oa = goodB a.data.toList := hRa.ok
  have hok' : ob = goodB b.data.toList := hRb.ok
  cases hg : (oa && ob) with
  | false =>
    have HN := bz_no (a := a) (b := b) (by unfold bzOk; rw [← hok, ← hok', hg]; rfl)
    clear hg hok hok' hRa hRb
    go_wp2_with (first | (refine store_nat rfl _ _ rfl rfl w1.heap.size k p rfl rfl 0 zP A zP_len hp ?_; intro w2 hN2 hg2 hs2) | (refine store_nat rfl _ _ rfl rfl (w1.heap.size + 1) m q rfl rfl 0 zP (B.grown hg2 (by simp)) zP_len hq ?_; intro w3 hN3 hg3 hs3))
    (try simp only [Exit.inBlock, Exit.then]); refine bodyPost_ret (results_tmp4 rfl _ _ _) rfl ?_
    exact ⟨HN.out, (hB.grown hg2 (by simp; omega) (by intro k hk; cases hk; omega)).grown hg3 (by rw [hs2]; simp; omega) (by intro k hk; cases hk; omega)⟩
  | true =>
    have HG : Hid ((goodB a.data.toList && goodB b.data.toList) = true) := by unfold Hid; rw [← hok, ← hok']; exact hg
    have hga : goodB a.data.toList = true := by have := HG.out; simp only [Bool.and_eq_true] at this; exact this.1
    have hgb : goodB b.data.toList = true := by have := HG.out; simp only [Bool.and_eq_true] at this; exact this.2
    have HRR := hideT (And.intro (hRa.rep hga) (hRb.rep hgb))
    have HLT := hideT (And.intro (good_lt hga) (good_lt hgb))
    clear hg hga hgb hRa hRb hok hok'
    by_cases hbad : k = 0 ∧ m = 0
    · have HN := bz_no (a := a) (b := b) (by unfold bzOk; rw [decide_eq_true (HRR.out.1.zero_iff.1 hbad.1), decide_eq_true (HRR.out.2.zero_iff.1 hbad.2)]; simp)
      have hk0 : ((k : Int) == 0) = true := by simp [hbad.1]
      have hm0 : ((m : Int) == 0) = true := by simp [hbad.2]
      clear hbad
      go_wp2_with (first | (refine store_nat rfl _ _ rfl rfl w1.heap.size k p rfl rfl 0 zP A zP_len hp ?_; intro w2 hN2 hg2 hs2) | (refine store_nat rfl _ _ rfl rfl (w1.heap.size + 1) m q rfl rfl 0 zP (B.grown hg2 (by simp)) zP_len hq ?_; intro w3 hN3 hg3 hs3; have c2 := (hN2.grown hg3 (by simp)).c0; have c3 := hN3.c0))
      (try simp only [Exit.inBlock, Exit.then]); refine bodyPost_ret (results_tmp4 rfl _ _ _) rfl ?_
      exact ⟨HN.out, (hB.grown hg2 (by simp; omega) (by intro k hk; cases hk; omega)).grown hg3 (by rw [hs2]; simp; omega) (by intro k hk; cases hk; omega)⟩
    · have HOK : Hid (bzOk a b = true) := by
        unfold Hid bzOk
        rw [HG.out, Bool.true_and]
        by_cases h0 : k = 0
        · rw [decide_eq_false (fun h => hbad ⟨h0, HRR.out.2.zero_iff.2 h⟩)]; simp
        · rw [decide_eq_false (fun h => h0 (HRR.out.1.zero_iff.2 h))]; simp
      obtain ⟨bk, hbk⟩ : ∃ bk, bk = ((k : Int) == 0) := ⟨_, rfl⟩
      obtain ⟨bm, hbm⟩ : ∃ bm, bm = ((m : Int) == 0) := ⟨_, rfl⟩
      have hbkm : bk = true → bm = false := by
        intro h; rw [hbk] at h; rw [hbm]
        have : k = 0 := by simpa using h
        simp; intro h2; exact hbad ⟨this, by omega⟩
      clear hbad
      have hbk' := hbk.symm
      have hbm' := hbm.symm
      clear hbk hbm
      cases bk with
      | true =>
        have hbm2 : bm = false := hbkm rfl
        subst hbm2
        clear hbkm
        go_wp2_with (first | (refine store_nat rfl _ _ rfl rfl w1.heap.size k p rfl rfl 0 zP A zP_len hp ?_; intro w2 hN2 hg2 hs2) | (refine store_nat rfl _ _ rfl rfl (w1.heap.size + 1) m q rfl rfl 0 zP (B.grown hg2 (by simp)) zP_len hq ?_; intro w3 hN3 hg3 hs3; have c2 := (hN2.grown hg3 (by simp)).c0; have c3 := hN3.c0) | (refine load_nat rfl (.tmp 8) rfl w1.heap.size rfl k p (hN2.grown hg3 (by simp)) hp ?_) | (refine load_nat rfl (.tmp 9) rfl (w1.heap.size + 1) rfl m q hN3 hq ?_))
        refine (bezout_any w3 HRR.out.1 HRR.out.2 HLT.out.1 HLT.out.2).mono ?_
        rintro e w4 ⟨⟨c, rfl, hcok, hcx, hcy, hbx, hby, hbr⟩, hW4⟩
        have hB3 : Below w.heap.size w w3 := (hB.grown hg2 (by simp; omega) (by intro k hk; cases hk; omega)).grown hg3 (by rw [hs2]; simp; omega) (by intro k hk; cases hk; omega)
        have hB4 : Below w.heap.size w w4 := hB3.trans (hW4.mono hB3.size)
        have HC := hideT (And.intro hcok (And.intro hcx (And.intro hcy (And.intro hbx (And.intro hby hbr)))))
        have D4 := RowAt.new w4 38 zC
        clear hcok hcx hcy hbx hby hbr A B hB hN2 hg2 hs2 hN3 hg3 hs3 hB3 hW4 c2 c3
        go_wp2_with (refine store_cb rfl (.tmp 11) _ rfl rfl w4.heap.size c _ rfl rfl zC D4 zC_size HC.out.1 ?_; intro w5 hN5 hg5 hs5)
        have hB5 : Below w.heap.size w w5 := (hB4.alloc hB4.size _).grown hg5 (by simp; have := hB4.size; omega) (by intro k hk; cases hk; have := hB4.size; omega)
        have hs5' : w4.heap.size + 1 = w5.heap.size := by rw [hs5]; simp
        clear hB4 hg5 hs5 D4
        have hcl := HC.out.1.r.len
        have hxl := HC.out.1.x.len
        refine held_begin (fun w' => Cb.At w' w4.heap.size c) (by kernel_rfl) ?_
        have hS : Cb.At w5.drew w4.heap.size c := hN5
        refine held_val 0 (some 34) rfl rfl (by kernel_rfl) (by kernel_rfl) (by kernel_rfl) noPanic_put rfl (.pointer (some ⟨w4.heap.size, 0, none⟩)) (fun _ => by go_simp) hS ?_
        simp only [Act.put, List.setIfInBounds_toArray, List.set_cons_zero, List.set_cons_succ]
        refine held_valS 1 (some 35) rfl rfl (by kernel_rfl) (by kernel_rfl) (by kernel_rfl) noPanic_put rfl (.agg (natC c.k c.p)) (fun _ h => run_mid_nat _ rfl w4.heap.size 0 rfl c.k c.p h.comb.sum hcl) hS ?_
        simp only [Act.put, List.setIfInBounds_toArray, List.set_cons_zero, List.set_cons_succ]
        refine held_val 3 (some 37) rfl rfl (by kernel_rfl) (by kernel_rfl) (by kernel_rfl) noPanic_put rfl (.pointer (some ⟨w4.heap.size, 205, none⟩)) (fun _ => by go_simp) hS ?_
        simp only [Act.put, List.setIfInBounds_toArray, List.set_cons_zero, List.set_cons_succ]
        refine held_valS 4 (some 38) rfl rfl (by kernel_rfl) (by kernel_rfl) (by kernel_rfl) noPanic_put rfl (.agg (wholeC (decide (c.x < 0)) c.k1 c.p1)) (fun _ h => run_mid_whole _ rfl w4.heap.size 205 rfl _ c.k1 c.p1 (h.comb.x hcl) hxl) hS ?_
        simp only [Act.put, List.setIfInBounds_toArray, List.set_cons_zero, List.set_cons_succ]
        refine held_val 6 (some 40) rfl rfl (by kernel_rfl) (by kernel_rfl) (by kernel_rfl) noPanic_put rfl (.pointer (some ⟨w4.heap.size, 411, none⟩)) (fun _ => by go_simp) hS ?_
        simp only [Act.put, List.setIfInBounds_toArray, List.set_cons_zero, List.set_cons_succ]
        refine held_valS 7 (some 41) rfl rfl (by kernel_rfl) (by kernel_rfl) (by kernel_rfl) noPanic_put rfl (.agg (wholeC (decide (c.y < 0)) c.k2 c.p2)) (fun _ h => run_mid_whole _ rfl w4.heap.size 411 rfl _ c.k2 c.p2 (h.comb.y hcl hxl) HC.out.1.y.len) hS ?_
        simp only [Act.put, List.setIfInBounds_toArray, List.set_cons_zero, List.set_cons_succ]
        refine held_call 2 (some 36) (by kernel_rfl) rfl rfl rfl 13 #[.agg (natC c.k c.p)] (by go_simp) _ (text_any w5.drew HC.out.1.r ((HT.out.on hB5.drew).up hB5.size)) ?_
        rintro e w6 ⟨y1, rfl, hc1, hv1, hW6⟩
        have hB6 : Below w.heap.size w w6 := hB5.drew.trans (hW6.mono hB5.size)
        have hS6 : Cb.At w6 w4.heap.size c := RowAt.below hS hW6 (by show _ < w5.heap.size; omega)
        have hs6 : w5.heap.size ≤ w6.heap.size := hW6.size
        refine ⟨_, rfl, hS6, ?_⟩
        simp only [Act.put, List.setIfInBounds_toArray, List.set_cons_zero, List.set_cons_succ]
        refine held_call 5 (some 39) (by kernel_rfl) rfl rfl rfl 14 #[.agg (wholeC (decide (c.x < 0)) c.k1 c.p1), .int .i64 10] (by go_simp) _ (wholeText_any (decide (c.x < 0)) 10 10 w6 HC.out.1.x (HC.out.1.x.small HC.out.2.2.2.1) rfl (by omega) (by omega) ((HT.out.on hB6).up hB6.size)) ?_
        rintro e w7 ⟨y2, rfl, hw2, hW7⟩
        have hB7 : Below w.heap.size w w7 := hB6.trans (hW7.mono hB6.size)
        have hS7 : Cb.At w7 w4.heap.size c := RowAt.below hS6 hW7 (by omega)
        have hs7 := hW7.size
        refine ⟨_, rfl, hS7, ?_⟩
        simp only [Act.put, List.setIfInBounds_toArray, List.set_cons_zero, List.set_cons_succ]
        refine held_call 8 (some 42) (by kernel_rfl) rfl rfl rfl 14 #[.agg (wholeC (decide (c.y < 0)) c.k2 c.p2), .int .i64 10] (by go_simp) _ (wholeText_any (decide (c.y < 0)) 10 10 w7 HC.out.1.y (HC.out.1.y.small HC.out.2.2.2.2.1) rfl (by omega) (by omega) ((HT.out.on hB7).up hB7.size)) ?_
        rintro e w8 ⟨y3, rfl, hw3, hW8⟩
        have hB8 : Below w.heap.size w w8 := hB7.trans (hW8.mono hB7.size)
        have hS8 : Cb.At w8 w4.heap.size c := RowAt.below hS7 hW8 (by omega)
        refine ⟨_, rfl, hS8, ?_⟩
        simp only [Act.put, List.setIfInBounds_toArray, List.set_cons_zero, List.set_cons_succ]
        refine held_assign 9 (some 4) (by kernel_rfl) rfl rfl _ rfl rfl _ rfl hS8 ?_
        simp only [Act.put, List.setIfInBounds_toArray, List.set_cons_zero, List.set_cons_succ]
        refine held_assign 10 (some 5) (by kernel_rfl) rfl rfl _ rfl rfl _ rfl hS8 ?_
        simp only [Act.put, List.setIfInBounds_toArray, List.set_cons_zero, List.set_cons_succ]
        refine held_assign 11 (some 6) (by kernel_rfl) rfl rfl _ rfl rfl _ rfl hS8 ?_
        simp only [Act.put, List.setIfInBounds_toArray, List.set_cons_zero, List.set_cons_succ]
        refine held_assign 12 (some 7) (by kernel_rfl) rfl rfl _ rfl rfl _ rfl hS8 ?_
        simp only [Act.put, List.setIfInBounds_toArray, List.set_cons_zero, List.set_cons_succ]
        refine wpAnyH_done (by kernel_rfl) ?_ _
        refine NoPanic.normal ?_
        have HA : Hid (BzAns a b (.returned (.tuple #[.string y1, .string y2, .string y3, .bool true]))) := by
          refine .inl ⟨HOK.out, y1, y2, y3, rfl, ⟨hc1, hv1⟩, ?_, ?_⟩
          · rw [← HC.out.2.1]; exact WT.of_whole HC.out.2.2.2.1 hw2
          · rw [← HC.out.2.2.1]; exact WT.of_whole HC.out.2.2.2.2.1 hw3
        clear hc1 hv1 hw2 hw3 hS hS6 hS7 hS8 hW6 hW7 hW8
        go_wp2
        (try simp only [Exit.inBlock, Exit.then]); refine bodyPost_ret (results_tmp4 rfl _ _ _) rfl ?_
        exact ⟨HA.out, hB8⟩
      | false =>
        clear hbkm hbm'
        go_wp2_with (first | (refine store_nat rfl _ _ rfl rfl w1.heap.size k p rfl rfl 0 zP A zP_len hp ?_; intro w2 hN2 hg2 hs2) | (refine store_nat rfl _ _ rfl rfl (w1.heap.size + 1) m q rfl rfl 0 zP (B.grown hg2 (by simp)) zP_len hq ?_; intro w3 hN3 hg3 hs3; have c2 := (hN2.grown hg3 (by simp)).c0; have c3 := hN3.c0) | (refine load_nat rfl (.tmp 8) rfl w1.heap.size rfl k p (hN2.grown hg3 (by simp)) hp ?_) | (refine load_nat rfl (.tmp 9) rfl (w1.heap.size + 1) rfl m q hN3 hq ?_))
        refine (bezout_any w3 HRR.out.1 HRR.out.2 HLT.out.1 HLT.out.2).mono ?_
        rintro e w4 ⟨⟨c, rfl, hcok, hcx, hcy, hbx, hby, hbr⟩, hW4⟩
        have hB3 : Below w.heap.size w w3 := (hB.grown hg2 (by simp; omega) (by intro k hk; cases hk; omega)).grown hg3 (by rw [hs2]; simp; omega) (by intro k hk; cases hk; omega)
        have hB4 : Below w.heap.size w w4 := hB3.trans (hW4.mono hB3.size)
        have HC := hideT (And.intro hcok (And.intro hcx (And.intro hcy (And.intro hbx (And.intro hby hbr)))))
        have D4 := RowAt.new w4 38 zC
        clear hcok hcx hcy hbx hby hbr A B hB hN2 hg2 hs2 hN3 hg3 hs3 hB3 hW4 c2 c3
        go_wp2_with (refine store_cb rfl (.tmp 11) _ rfl rfl w4.heap.size c _ rfl rfl zC D4 zC_size HC.out.1 ?_; intro w5 hN5 hg5 hs5)
        have hB5 : Below w.heap.size w w5 := (hB4.alloc hB4.size _).grown hg5 (by simp; have := hB4.size; omega) (by intro k hk; cases hk; have := hB4.size; omega)
        have hs5' : w4.heap.size + 1 = w5.heap.size := by rw [hs5]; simp
        clear hB4 hg5 hs5 D4
        have hcl := HC.out.1.r.len
        have hxl := HC.out.1.x.len
        refine held_begin (fun w' => Cb.At w' w4.heap.size c) (by kernel_rfl) ?_
        have hS : Cb.At w5.drew w4.heap.size c := hN5
        refine held_val 0 (some 34) rfl rfl (by kernel_rfl) (by kernel_rfl) (by kernel_rfl) noPanic_put rfl (.pointer (some ⟨w4.heap.size, 0, none⟩)) (fun _ => by go_simp) hS ?_
        simp only [Act.put, List.setIfInBounds_toArray, List.set_cons_zero, List.set_cons_succ]
        refine held_valS 1 (some 35) rfl rfl (by kernel_rfl) (by kernel_rfl) (by kernel_rfl) noPanic_put rfl (.agg (natC c.k c.p)) (fun _ h => run_mid_nat _ rfl w4.heap.size 0 rfl c.k c.p h.comb.sum hcl) hS ?_
        simp only [Act.put, List.setIfInBounds_toArray, List.set_cons_zero, List.set_cons_succ]
        refine held_val 3 (some 37) rfl rfl (by kernel_rfl) (by kernel_rfl) (by kernel_rfl) noPanic_put rfl (.pointer (some ⟨w4.heap.size, 205, none⟩)) (fun _ => by go_simp) hS ?_
        simp only [Act.put, List.setIfInBounds_toArray, List.set_cons_zero, List.set_cons_succ]
        refine held_valS 4 (some 38) rfl rfl (by kernel_rfl) (by kernel_rfl) (by kernel_rfl) noPanic_put rfl (.agg (wholeC (decide (c.x < 0)) c.k1 c.p1)) (fun _ h => run_mid_whole _ rfl w4.heap.size 205 rfl _ c.k1 c.p1 (h.comb.x hcl) hxl) hS ?_
        simp only [Act.put, List.setIfInBounds_toArray, List.set_cons_zero, List.set_cons_succ]
        refine held_val 6 (some 40) rfl rfl (by kernel_rfl) (by kernel_rfl) (by kernel_rfl) noPanic_put rfl (.pointer (some ⟨w4.heap.size, 411, none⟩)) (fun _ => by go_simp) hS ?_
        simp only [Act.put, List.setIfInBounds_toArray, List.set_cons_zero, List.set_cons_succ]
        refine held_valS 7 (some 41) rfl rfl (by kernel_rfl) (by kernel_rfl) (by kernel_rfl) noPanic_put rfl (.agg (wholeC (decide (c.y < 0)) c.k2 c.p2)) (fun _ h => run_mid_whole _ rfl w4.heap.size 411 rfl _ c.k2 c.p2 (h.comb.y hcl hxl) HC.out.1.y.len) hS ?_
        simp only [Act.put, List.setIfInBounds_toArray, List.set_cons_zero, List.set_cons_succ]
        refine held_call 2 (some 36) (by kernel_rfl) rfl rfl rfl 13 #[.agg (natC c.k c.p)] (by go_simp) _ (text_any w5.drew HC.out.1.r ((HT.out.on hB5.drew).up hB5.size)) ?_
        rintro e w6 ⟨y1, rfl, hc1, hv1, hW6⟩
        have hB6 : Below w.heap.size w w6 := hB5.drew.trans (hW6.mono hB5.size)
        have hS6 : Cb.At w6 w4.heap.size c := RowAt.below hS hW6 (by show _ < w5.heap.size; omega)
        have hs6 : w5.heap.size ≤ w6.heap.size := hW6.size
        refine ⟨_, rfl, hS6, ?_⟩
        simp only [Act.put, List.setIfInBounds_toArray, List.set_cons_zero, List.set_cons_succ]
        refine held_call 5 (some 39) (by kernel_rfl) rfl rfl rfl 14 #[.agg (wholeC (decide (c.x < 0)) c.k1 c.p1), .int .i64 10] (by go_simp) _ (wholeText_any (decide (c.x < 0)) 10 10 w6 HC.out.1.x (HC.out.1.x.small HC.out.2.2.2.1) rfl (by omega) (by omega) ((HT.out.on hB6).up hB6.size)) ?_
        rintro e w7 ⟨y2, rfl, hw2, hW7⟩
        have hB7 : Below w.heap.size w w7 := hB6.trans (hW7.mono hB6.size)
        have hS7 : Cb.At w7 w4.heap.size c := RowAt.below hS6 hW7 (by omega)
        have hs7 := hW7.size
        refine ⟨_, rfl, hS7, ?_⟩
        simp only [Act.put, List.setIfInBounds_toArray, List.set_cons_zero, List.set_cons_succ]
        refine held_call 8 (some 42) (by kernel_rfl) rfl rfl rfl 14 #[.agg (wholeC (decide (c.y < 0)) c.k2 c.p2), .int .i64 10] (by go_simp) _ (wholeText_any (decide (c.y < 0)) 10 10 w7 HC.out.1.y (HC.out.1.y.small HC.out.2.2.2.2.1) rfl (by omega) (by omega) ((HT.out.on hB7).up hB7.size)) ?_
        rintro e w8 ⟨y3, rfl, hw3, hW8⟩
        have hB8 : Below w.heap.size w w8 := hB7.trans (hW8.mono hB7.size)
        have hS8 : Cb.At w8 w4.heap.size c := RowAt.below hS7 hW8 (by omega)
        refine ⟨_, rfl, hS8, ?_⟩
        simp only [Act.put, List.setIfInBounds_toArray, List.set_cons_zero, List.set_cons_succ]
        refine held_assign 9 (some 4) (by kernel_rfl) rfl rfl _ rfl rfl _ rfl hS8 ?_
        simp only [Act.put, List.setIfInBounds_toArray, List.set_cons_zero, List.set_cons_succ]
        refine held_assign 10 (some 5) (by kernel_rfl) rfl rfl _ rfl rfl _ rfl hS8 ?_
        simp only [Act.put, List.setIfInBounds_toArray, List.set_cons_zero, List.set_cons_succ]
        refine held_assign 11 (some 6) (by kernel_rfl) rfl rfl _ rfl rfl _ rfl hS8 ?_
        simp only [Act.put, List.setIfInBounds_toArray, List.set_cons_zero, List.set_cons_succ]
        refine held_assign 12 (some 7) (by kernel_rfl) rfl rfl _ rfl rfl _ rfl hS8 ?_
        simp only [Act.put, List.setIfInBounds_toArray, List.set_cons_zero, List.set_cons_succ]
        refine wpAnyH_done (by kernel_rfl) ?_ _
        refine NoPanic.normal ?_
        have HA : Hid (BzAns a b (.returned (.tuple #[.string y1, .string y2, .string y3, .bool true]))) := by
          refine .inl ⟨HOK.out, y1, y2, y3, rfl, ⟨hc1, hv1⟩, ?_, ?_⟩
          · rw [← HC.out.2.1]; exact WT.of_whole HC.out.2.2.2.1 hw2
          · rw [← HC.out.2.2.1]; exact WT.of_whole HC.out.2.2.2.2.1 hw3
        clear hc1 hv1 hw2 hw3 hS hS6 hS7 hS8 hW6 hW7 hW8
        go_wp2
        (try simp only [Exit.inBlock, Exit.then]); refine bodyPost_ret (results_tmp4 rfl _ _ _) rfl ?_
        exact ⟨HA.out, hB8⟩

end Go.Proofs.YtmfpnbmfcoahbaaGreatDoor

/-
  The law FnBezout: its walk.
-/
namespace Go.Proofs.YtmfpnbmfcoahbaaGreatDoor
open Go.RowKit
set_option linter.unusedVariables false

theorem bz_small {s : ByteArray} (h : s.size ≤ 1000) : s.size ≤ maxLen := by unfold maxLen; omega
theorem bz_told {g : Bool} {n : Nat} {e : Ending} (h : Ans g n e) (hg : g = true) (hn : n < 10 ^ 600) : ∃ s : ByteArray, e = .returned (.tuple #[.string s, .bool true]) ∧ Tx s n := by
  rcases h with ⟨_, s, he, h1, _⟩ | ⟨h, _⟩
  · exact ⟨s, by rw [he, decide_eq_true hn], h1 hn⟩
  · rw [hg] at h; cases h
theorem good_txBK {a : ByteArray} {k : Nat} (h : decide (a.data.toList.length ≤ k) && canonB a.data.toList) : Tx a (dval a.data.toList) ∧ dval a.data.toList < 10 ^ k := by
  have h1 := Bool.and_eq_true_iff.1 h
  have h2 := of_decide_eq_true h1.1
  refine ⟨⟨h1.2, rfl⟩, ?_⟩
  have h3 : 1 ≤ a.data.toList.length := by
    rcases Nat.eq_zero_or_pos a.data.toList.length with h0 | h0
    · have e : a.data.toList = [] := List.length_eq_zero_iff.1 h0
      have hc := h1.2
      rw [e] at hc; cases hc
    · exact h0
  exact (canon_len_le h1.2 k (by omega)).1 h2
theorem good_txB {a : ByteArray} (h : goodB a.data.toList = true) : Tx a (dval a.data.toList) ∧ dval a.data.toList < 10 ^ 600 := good_txBK (k := 600) h
theorem gcd_small {A B M : Nat} (hA : A < M) (hB : B < M) : Nat.gcd A B < M := by
  rcases Nat.eq_zero_or_pos A with h | h
  · subst h; rw [Nat.gcd_zero_left]; exact hB
  · exact Nat.lt_of_le_of_lt (Nat.gcd_le_left B h) hA
theorem WT.num {s t : ByteArray} {z : Int} {n : Nat} (h : WT s z) (hz : z = (n : Int)) (g : Tx t n) (hn : n < 10 ^ 600) : s = t := by
  subst hz
  exact h.inj (WT.of_tx g hn)

set_option maxHeartbeats 8000000 in
set_option maxRecDepth 100000 in
theorem bezout_walk (l0 : List Int) (v0 : Value) (w : World) (h0 : Code w v0 l0) (hT : Tab w.heap.size w) :
    Calls Tryz.prog 3 #[v0] w fun e w' => e = .returned (.bool true) ∧ Below w.heap.size w w' := by
  have HC := hideT' h0
  obtain ⟨o0, c0, rfl⟩ := h0.1.len
  have HT := hideT' hT
  clear h0 hT
  go_enter Tryz.func3, Tryz.ntmps3
  by_cases hlong : (1048576 : Int) < (l0.length : Int)
  · go_wp2
    go_ret
    exact ⟨rfl, Below.refl _ _⟩
  go_wp2_with fail
  refine (drawBezout_any _ l0 w HC.out).mono ?_
  rintro e w1 ⟨⟨a, b, rfl, ha, hb⟩, hB1⟩
  have HA := hideT' (And.intro (bz_small ha) (bz_small hb))
  clear ha hb
  go_wp2_with fail
  refine (implBezout_any a b w1 HA.out.1 HA.out.2 ((HT.out.on hB1).up hB1.size)).mono ?_
  rintro e w2 ⟨hA2, hB2⟩
  have hA2' := hA2
  have HP := hideT' hA2
  obtain ⟨s, t, u, o, he, _⟩ := hA2.same hA2'
  subst he
  have hV2 := hB1.trans (hB2.mono hB1.size)
  clear hA2 hA2' hB1 hB2
  go_wp2_with fail
  refine (specBezout_any a b w2 HA.out.1 HA.out.2).mono ?_
  rintro e w3 ⟨hA3, hB3⟩
  obtain ⟨s2, t2, u2, o2, he1, he2⟩ := HP.out.same hA3
  obtain ⟨rfl, rfl, rfl, rfl⟩ : s = s2 ∧ t = t2 ∧ u = u2 ∧ o = o2 := by
    simp only [Ending.returned.injEq, Value.tuple.injEq, Array.mk.injEq, List.cons.injEq, Value.string.injEq, Value.bool.injEq, and_true] at he1
    simpa using he1
  subst he2
  have hV3 := hV2.trans (hB3.mono hV2.size)
  clear he1 hA3 hV2 hB3
  cases o with
  | false =>
    have hs : s = ⟨#[]⟩ := by
      rcases HP.out with ⟨_, s', t', u', h, _⟩ | ⟨_, h⟩
      · simp at h
      · simp only [Ending.returned.injEq, Value.tuple.injEq, Array.mk.injEq, List.cons.injEq, Value.string.injEq, and_true] at h
        exact h.1
    subst hs
    clear HP
    go_wp2
    go_ret
    exact ⟨rfl, hV3⟩
  | true =>
    obtain ⟨A, B, X, Y, HF⟩ : ∃ (A B : Nat) (X Y : Int), Hid ((goodB a.data.toList && goodB b.data.toList) = true ∧ A = dval a.data.toList ∧ B = dval b.data.toList ∧ A < 10 ^ 600 ∧ B < 10 ^ 600 ∧ Tx a A ∧ Tx b B ∧ Tx s (Nat.gcd A B) ∧ WT t X ∧ WT u Y ∧ X * A + Y * B = ((Nat.gcd A B : Nat) : Int)) := by
      rcases HP.out with ⟨hg, s', t', u', h, h1, h2, h3⟩ | ⟨_, h⟩
      · simp only [Ending.returned.injEq, Value.tuple.injEq, Array.mk.injEq, List.cons.injEq, Value.string.injEq, and_true] at h
        obtain ⟨rfl, rfl, rfl⟩ := h
        have hgg := (Bool.and_eq_true_iff.1 (show ((goodB a.data.toList && goodB b.data.toList) && !(decide (dval a.data.toList = 0) && decide (dval b.data.toList = 0))) = true from hg)).1
        have hg2 := Bool.and_eq_true_iff.1 hgg
        obtain ⟨ta, la⟩ := good_txB hg2.1
        obtain ⟨tb, lb⟩ := good_txB hg2.2
        obtain ⟨e1, e2⟩ := bz_eq (dval a.data.toList) (dval b.data.toList)
        rw [e2] at h1
        exact ⟨_, _, _, _, hgg, rfl, rfl, la, lb, ta, tb, h1, h2, h3, e1.symm⟩
      · simp at h
    have HS := hideT' (gcd_small HF.out.2.2.2.1 HF.out.2.2.2.2.1)
    have HM : Hid (∀ {x : ByteArray}, x.size ≤ 601 → x.size ≤ maxLen) := fun h => by unfold maxLen; omega
    clear HP
    go_wp2_with fail
    refine (implGcd_any a b w3 HA.out.1 HA.out.2 ((HT.out.on hV3).up hV3.size)).mono ?_
    rintro e w4 ⟨hA4, hB4⟩
    rw [← HF.out.2.1, ← HF.out.2.2.1] at hA4
    obtain ⟨d, rfl, td⟩ := bz_told hA4 HF.out.1 HS.out
    obtain rfl := td.inj HF.out.2.2.2.2.2.2.2.1
    have hV4 := hV3.trans (hB4.mono hV3.size)
    clear hA4 td hV3 hB4
    go_wp2_with fail
    refine (implMulNum_any t a w4 (HM.out HF.out.2.2.2.2.2.2.2.2.1.size) HA.out.1 ((HT.out.on hV4).up hV4.size)).mono ?_
    rintro e w5 ⟨hA5, hB5⟩
    obtain ⟨p, o5, rfl, tp⟩ := mulW_ok HF.out.2.2.2.2.2.2.2.2.1 (WT.of_tx HF.out.2.2.2.2.2.1 HF.out.2.2.2.1) hA5
    have HP := hideT' tp
    have hV5 := hV4.trans (hB5.mono hV4.size)
    clear hA5 tp hV4 hB5
    go_wp2_with fail
    refine (implMulNum_any u b w5 (HM.out HF.out.2.2.2.2.2.2.2.2.2.1.size) HA.out.2 ((HT.out.on hV5).up hV5.size)).mono ?_
    rintro e w6 ⟨hA6, hB6⟩
    obtain ⟨q, o6, rfl, tq⟩ := mulW_ok HF.out.2.2.2.2.2.2.2.2.2.1 (WT.of_tx HF.out.2.2.2.2.2.2.1 HF.out.2.2.2.2.1) hA6
    have HQ := hideT' tq
    have hV6 := hV5.trans (hB6.mono hV5.size)
    clear hA6 tq hV5 hB6
    cases o5 with
    | false =>
      go_wp2
      go_ret
      exact ⟨rfl, hV6⟩
    | true =>
      cases o6 with
      | false =>
        go_wp2
        go_ret
        exact ⟨rfl, hV6⟩
      | true =>
        have HPQ := hideT' (And.intro (HP.out rfl) (HQ.out rfl))
        clear HP HQ
        go_wp2_with fail
        refine (implAddNum_any p q w6 (HM.out HPQ.out.1.size) (HM.out HPQ.out.2.size) ((HT.out.on hV6).up hV6.size)).mono ?_
        rintro e w7 ⟨hA7, hB7⟩
        obtain ⟨z, o7, rfl, tz⟩ := addW_ok HPQ.out.1 HPQ.out.2 hA7
        have hV7 := hV6.trans (hB7.mono hV6.size)
        clear hA7 hV6 hB7
        cases o7 with
        | false =>
          clear tz
          go_wp2
          go_ret
          exact ⟨rfl, hV7⟩
        | true =>
          obtain rfl := (tz rfl).num HF.out.2.2.2.2.2.2.2.2.2.2 HF.out.2.2.2.2.2.2.2.1 HS.out
          clear tz
          go_wp2
          go_ret
          exact ⟨rfl, hV7⟩
end Go.Proofs.YtmfpnbmfcoahbaaGreatDoor

/-
  Rows of records that came in as arguments: what their reading says of the cells.
-/
namespace Go.Proofs.YtmfpnbmfcoahbaaGreatDoor
open Go.ChangeShapes Go.WideShapes Go.ChangeAt Go.RowKit
set_option linter.unusedVariables false

theorem laidOutR : laidOutB Tryz.prog = true := by kernel_rfl

theorem cell_block {w : World} {a : Addr} {v : Value} (h : w.cell? a = some v) : a.block < w.heap.size := by
  rcases Nat.lt_or_ge a.block w.heap.size with h1 | h1
  · exact h1
  · have h2 : w.heap[a.block]? = none := Array.getElem?_eq_none h1
    simp [World.cell?, h2] at h

/-- A slice of records, out of what each record's reading says. -/
theorem open_recs {H : Type} {enc : TypeId × Value → H} {W : World} {X : Type} [Inhabited X] (f : X → List Value) (c : Nat) (hc0 : 0 < c) (hc : ∀ x, (f x).length = c) (Q : X → Prop) {t e : TypeId} (ht : Tryz.prog.underlying t = some (.slice e)) (hce : Tryz.prog.cellsOf e = c)
    (each : ∀ (n : Nat) (cs : List Value) (x : DataW H × List MemPlace), cs.length = c → DataW.trod enc Tryz.prog W 0 (fun _ => true) true n e cs = some x → ∃ d : X, cs = f d ∧ Q d)
    {fuel : Nat} {cs : List Value} {x : DataW H × List MemPlace} (h : DataW.trod enc Tryz.prog W 0 (fun _ => true) true fuel t cs = some x) :
    ∃ (v : Value) (l : List X), cs = [v] ∧ SlR W v f c l ∧ (∀ i, i < l.length → Q (l.getD i default)) ∧ l.length ≤ maxLen := by
  rcases Deep.open_slice ht h with ⟨h1, _⟩ | ⟨a, len', cap', m, n, D, Pl, h1, hb, hl, hm, hmm, hx, hel⟩
  · exact ⟨.slice none 0 0, [], h1, .inl ⟨rfl, rfl⟩, fun i hi => by simp at hi, by unfold maxLen; simp⟩
  · have hlm : len' ≤ m := by rw [hmm]; simp; exact hl
    have each' : ∀ i, i < len' → ∃ d : X, W.cells? 0 (a.add (i * c)) c = some (f d) ∧ Q d := fun i hi => by
      obtain ⟨cs', g1, g2⟩ := hel i (by omega)
      rw [hce] at g1
      obtain ⟨_, hlen, _⟩ := World.cells?_some g1
      obtain ⟨d, rfl, ht⟩ := each _ _ _ hlen g2
      exact ⟨d, g1, ht⟩
    obtain ⟨g, hfl⟩ := Deep.choose_lt each'
    have hlen : ((List.range len').map g).length = len' := by simp
    have hget : ∀ i, i < len' → ((List.range len').map g).getD i default = g i := fun i hi => by simp [List.getD, hi]
    refine ⟨_, (List.range len').map g, h1, .inr ⟨a, cap', by rw [hlen], fun i j v hi hv => ?_, fun h0 => ?_⟩, fun i hi => ?_, by rw [hlen]; omega⟩
    · rw [hlen] at hi
      rw [hget i hi] at hv
      obtain ⟨_, _, hcc⟩ := World.cells?_some (hfl i hi).1
      have hj : j < c := by
        have := (List.getElem?_eq_some_iff.1 hv).1
        rw [hc] at this
        exact this
      rw [hcc j hj]
      exact hv
    · rw [hlen] at h0
      obtain ⟨_, _, hcc⟩ := World.cells?_some (hfl 0 h0).1
      have h2 := hcc 0 hc0
      have h3 : (f (g 0))[0]? = some ((f (g 0))[0]'(by rw [hc]; exact hc0)) := List.getElem?_eq_getElem _
      rw [h3] at h2
      have := cell_block h2
      simpa [Addr.add] using this
    · rw [hlen] at hi
      rw [hget i hi]
      exact (hfl i hi).2
theorem cells_strR : Tryz.prog.cellsOf 9 = 1 := by kernel_rfl
theorem cells_intR : Tryz.prog.cellsOf 3 = 1 := by kernel_rfl
theorem cells_boolR : Tryz.prog.cellsOf 4 = 1 := by kernel_rfl
end Go.Proofs.YtmfpnbmfcoahbaaGreatDoor
