/-
  The texts SpecBez, RecString, SpecCh, WholeDiv, Float, BaseLate, Comb, ReadAll, ImplPow, ImplCh, BaseMany, one behind the other, as one.
-/
import Derived.Test.YthbnacikomimfaaDoorBezMath
import Derived.Test.YthbnacikomimfaaDoorSpecMulNum
import Derived.Test.YthbnacikomimfaaDoorSpecRoot
import Derived.Test.YthbnacikomimfaaDoorBaseHeld
import Derived.Test.YthbnacikomimfaaDoorRecs
import Derived.Test.YthbnacikomimfaaDoorChAns
import Derived.Test.YthbnacikomimfaaDoorPkSpecParts
import Derived.Test.YthbnacikomimfaaDoorPkNumTimes
import Derived.Test.YthbnacikomimfaaDoorTwoTwo
import Derived.Test.YthbnacikomimfaaDoorBaseRow
import Derived.OwnWalk
import Derived.Maps.AppendAt
import Derived.WalkMore
import Derived.Test.YthbnacikomimfaaDoorPkRead
import Derived.Test.YthbnacikomimfaaDoorSpecPow
import Derived.Test.YthbnacikomimfaaDoorPkDivideA
import Derived.Test.YthbnacikomimfaaDoorPkMinus
import Derived.Test.YthbnacikomimfaaDoorImplAdd
import Derived.Test.YthbnacikomimfaaDoorPkImplDigits
import Derived.Lib.OthersKept
import Derived.Test.YthbnacikomimfaaDoorChMath

/-
  What spec.laBezout and spec.BezoutNat answer.
-/
namespace Go.Proofs.YthbnacikomimfaaDoor
open Go.RowKit
set_option linter.unusedVariables false

theorem WT.size {s : ByteArray} {z : Int} (h : WT s z) : s.size ≤ 601 := by
  have hl : s.data.toList.length = s.size := by simp
  obtain ⟨hc, hv⟩ := dec_canon z.natAbs
  have h1 := (canon_len_le hc 600 (by omega)).2 (by rw [hv]; exact h.1)
  rw [← hl, h.2, List.length_append]
  split <;> simp <;> omega
theorem WT.of_tx {s : ByteArray} {n : Nat} (h : Tx s n) (hn : n < 10 ^ 600) : WT s (n : Int) := by
  refine ⟨by rw [Int.natAbs_natCast]; exact hn, ?_⟩
  rw [if_neg (by omega), List.nil_append]
  obtain ⟨hc, hv⟩ := dec_canon n
  simp only [Int.natAbs_natCast]
  exact canon_inj h.1 hc (h.2.trans hv.symm)
theorem mulZ {a b : ByteArray} {x y : Int} (w : World) (ha : WT a x) (hb : WT b y) (hlt : (x * y).natAbs < 10 ^ 600) :
    Calls Tryd.prog 62 #[.string a, .string b] w fun e w' => (∃ s : ByteArray, e = .returned (.tuple #[.string s, .bool true]) ∧ WT s (x * y)) ∧ Below w.heap.size w w' := by
  refine (specMulNum_any a b w (by have := ha.size; unfold maxLen; omega) (by have := hb.size; unfold maxLen; omega)).mono ?_
  rintro e w' ⟨h1, h2⟩
  exact ⟨mulW ha hb hlt h1, h2⟩
theorem subZ {a b : ByteArray} {x y : Int} (w : World) (ha : WT a x) (hb : WT b y) (hlt : (x - y).natAbs < 10 ^ 600) :
    Calls Tryd.prog 63 #[.string a, .string b] w fun e w' => (∃ s : ByteArray, e = .returned (.tuple #[.string s, .bool true]) ∧ WT s (x - y)) ∧ Below w.heap.size w w' := by
  refine (specSubNum_any a b w (by have := ha.size; unfold maxLen; omega) (by have := hb.size; unfold maxLen; omega)).mono ?_
  rintro e w' ⟨h1, h2⟩
  exact ⟨subW ha hb hlt h1, h2⟩

theorem max_lt3 {A B T : Nat} (hA : A < T) (hB : B < T) : max A B < T := by rw [Nat.max_def]; split <;> assumption
/-- The state of the steps: all in bounds, and what they come to. -/
def BzOk (A B r r' : Nat) (x y x' y' : Int) : Prop := Col (B : Int) r r' x x' ∧ Col (A : Int) r r' y y' ∧ r ≤ max A B ∧ r' ≤ max A B ∧ bz r' r x y x' y' = bz B A 1 0 0 1
theorem BzOk.start (A B : Nat) : BzOk A B A B 1 0 0 1 := ⟨Col.start_x A B, Col.start_y A B, Nat.le_max_left _ _, Nat.le_max_right _ _, rfl⟩
theorem BzOk.step {A B r r' : Nat} {x y x' y' : Int} (h : BzOk A B r r' x y x' y') (h0 : r' ≠ 0) : BzOk A B r' (r % r') x' y' (x - ((r / r' : Nat) : Int) * x') (y - ((r / r' : Nat) : Int) * y') := by
  obtain ⟨h1, h2, h3, h4, h5⟩ := h
  refine ⟨h1.step, h2.step, h4, Nat.le_trans (Nat.le_of_lt (Nat.mod_lt _ (Nat.pos_of_ne_zero h0))) h4, ?_⟩
  rw [← h5, bz_step h0]
/-- What laBezout answers. -/
def BzOut (A B : Nat) (e : Ending) : Prop := ∃ s t u : ByteArray, e = .returned (.tuple #[.string s, .string t, .string u]) ∧ Tx s (bz B A 1 0 0 1).1 ∧ WT t (bz B A 1 0 0 1).2.1 ∧ WT u (bz B A 1 0 0 1).2.2

set_option maxHeartbeats 4000000 in
set_option maxRecDepth 100000 in
theorem laBezout_any {a b : ByteArray} {A B : Nat} (w : World) (ha : Tx a A) (hb : Tx b B) (hA : A < 10 ^ 600) (hB : B < 10 ^ 600) :
    Calls Tryd.prog 32 #[.string a, .string b] w fun e w' => BzOut A B e ∧ Below w.heap.size w w' := by
  have HAB := hideT (And.intro ha (And.intro hb (And.intro hA hB)))
  have HM : Hid (max A B < 10 ^ 600) := max_lt3 hA hB
  have H1 : Hid (WT ⟨#[49]⟩ 1 ∧ WT ⟨#[48]⟩ 0) := ⟨WT.of_tx (n := 1) ⟨by decide, by decide⟩ one_lt_600, WT.of_tx (n := 0) ⟨by decide, by decide⟩ (Nat.lt_trans (by decide) one_lt_600)⟩
  clear ha hb hA hB
  go_enter Tryd.func32, Tryd.ntmps32
  go_wp2_with fail
  go_loopg [0, 1, 7, 8, 9, 10] B (fun g va vb vx vy vu vv wr => ∃ (r : Nat) (x y x' y' : Int) (sr sr' sx sy sx' sy' : ByteArray), va = .string sr ∧ vb = .string sr' ∧ vx = .string sx ∧ vy = .string sy ∧ vu = .string sx' ∧ vv = .string sy' ∧ Hid (BzOk A B r g x y x' y') ∧ Hid (Tx sr r ∧ Tx sr' g ∧ WT sx x ∧ WT sy y ∧ WT sx' x' ∧ WT sy' y') ∧ Hid (Below w.heap.size w wr))
  case atStart => exact ⟨A, 1, 0, 0, 1, a, b, ⟨#[49]⟩, ⟨#[48]⟩, ⟨#[48]⟩, ⟨#[49]⟩, rfl, rfl, rfl, rfl, rfl, rfl, BzOk.start A B, ⟨HAB.out.1, HAB.out.2.1, H1.out.1, H1.out.2, H1.out.2, H1.out.1⟩, Below.refl _ _⟩
  case round =>
    obtain ⟨r, x, y, x', y', sr, sr', sx, sy, sx', sy', rfl, rfl, rfl, rfl, rfl, rfl, HO, HT, HBL⟩ := hrel
    have hbl := HBL.out.size
    have hz := HT.out.2.1.bytes [48] (by decide)
    rw [show dval [48] = 0 by decide] at hz
    by_cases h0 : gk = 0
    · rw [decide_eq_true h0] at hz
      have HE : Hid (BzOut A B (.returned (.tuple #[.string sr, .string sx, .string sy]))) := by
        have h5 := HO.out.2.2.2.2
        rw [h0, bz_end] at h5
        refine ⟨sr, sx, sy, rfl, ?_, ?_, ?_⟩ <;> rw [← h5]
        · exact HT.out.1
        · exact HT.out.2.2.1
        · exact HT.out.2.2.2.1
      clear h0
      go_wp2
      go_ret3
      exact ⟨HE.out, HBL.out⟩
    · rw [decide_eq_false h0] at hz
      have HS := hideT (HO.out.step h0)
      have hpos : 0 < gk := Nat.pos_of_ne_zero h0
      have bx := HO.out.1.bound hpos
      have by' := HO.out.2.1.bound hpos
      have hAB : Hid (A < 10 ^ 600 ∧ B < 10 ^ 600) := HAB.out.2.2
      have HBD : Hid ((((r / gk : Nat) : Int) * x').natAbs < 10 ^ 600 ∧ (x - ((r / gk : Nat) : Int) * x').natAbs < 10 ^ 600 ∧ (((r / gk : Nat) : Int) * y').natAbs < 10 ^ 600 ∧ (y - ((r / gk : Nat) : Int) * y').natAbs < 10 ^ 600) := by
        simp only [Int.natAbs_natCast] at bx by'
        exact ⟨Nat.lt_of_le_of_lt bx.2 hAB.out.2, Nat.lt_of_le_of_lt bx.1 hAB.out.2, Nat.lt_of_le_of_lt by'.2 hAB.out.1, Nat.lt_of_le_of_lt by'.1 hAB.out.1⟩
      have HR : Hid (r < 10 ^ 600 ∧ gk < 10 ^ 600) := ⟨Nat.lt_of_le_of_lt HO.out.2.2.1 HM.out, Nat.lt_of_le_of_lt HO.out.2.2.2.1 HM.out⟩
      have hsr : sr.size ≤ 600 := HT.out.1.size HR.out.1 (by omega)
      have hsr' : sr'.size ≤ 600 := HT.out.2.1.size HR.out.2 (by omega)
      have HLT : Hid (r % gk < gk) := Nat.mod_lt _ hpos
      have HP := hideT h0
      clear h0 bx by' hpos
      go_wp2_with fail
      refine (divT _ HT.out.1 HT.out.2.1 (by omega) (by omega) HP.out).mono ?_
      rintro e w1 ⟨q, t, rfl, hq, ht, hW1⟩
      have HQ : Hid (WT q ((r / gk : Nat) : Int)) := WT.of_tx hq (Nat.lt_of_le_of_lt (Nat.div_le_self _ _) HR.out.1)
      have HTT := hideT ht
      have hB1 : Below w.heap.size w w1 := HBL.out.trans (hW1.mono hbl)
      clear hq ht hW1
      go_wp2_with fail
      refine (mulZ w1 HQ.out HT.out.2.2.2.2.1 HBD.out.1).mono ?_
      rintro e w2 ⟨⟨m1, rfl, hm1⟩, hW2⟩
      have HM1 := hideT hm1
      have hB2 : Below w.heap.size w w2 := hB1.trans (hW2.mono hB1.size)
      clear hm1 hW2 hB1
      go_wp2_with fail
      refine (subZ w2 HT.out.2.2.1 HM1.out HBD.out.2.1).mono ?_
      rintro e w3 ⟨⟨d1, rfl, hd1⟩, hW3⟩
      have HD1 := hideT hd1
      have hB3 : Below w.heap.size w w3 := hB2.trans (hW3.mono hB2.size)
      clear hd1 hW3 hB2
      go_wp2_with fail
      refine (mulZ w3 HQ.out HT.out.2.2.2.2.2 HBD.out.2.2.1).mono ?_
      rintro e w4 ⟨⟨m2, rfl, hm2⟩, hW4⟩
      have HM2 := hideT hm2
      have hB4 : Below w.heap.size w w4 := hB3.trans (hW4.mono hB3.size)
      clear hm2 hW4 hB3
      go_wp2_with fail
      refine (subZ w4 HT.out.2.2.2.1 HM2.out HBD.out.2.2.2).mono ?_
      rintro e w5 ⟨⟨d2, rfl, hd2⟩, hW5⟩
      have HD2 := hideT hd2
      have hB5 : Below w.heap.size w w5 := hB4.trans (hW5.mono hB4.size)
      clear hd2 hW5 hB4
      go_wp2
      go_roundg (r % gk)
      case measure => exact HLT.out
      case rel => exact ⟨gk, x', y', _, _, sr', t, sx', sy', d1, d2, rfl, rfl, rfl, rfl, rfl, rfl, HS, ⟨HT.out.2.1, HTT.out, HT.out.2.2.2.2.1, HT.out.2.2.2.2.2, HD1.out, HD2.out⟩, hB5⟩

/-- May Bezout's numbers be told? -/
def bzOk (a b : ByteArray) : Bool := (goodB a.data.toList && goodB b.data.toList) && !(decide (dval a.data.toList = 0) && decide (dval b.data.toList = 0))
/-- What BezoutNat answers. -/
def BzAns (a b : ByteArray) (e : Ending) : Prop :=
  (bzOk a b = true ∧ ∃ s t u : ByteArray, e = .returned (.tuple #[.string s, .string t, .string u, .bool true]) ∧ Tx s (bz (dval b.data.toList) (dval a.data.toList) 1 0 0 1).1 ∧ WT t (bz (dval b.data.toList) (dval a.data.toList) 1 0 0 1).2.1 ∧ WT u (bz (dval b.data.toList) (dval a.data.toList) 1 0 0 1).2.2) ∨ (bzOk a b = false ∧ e = .returned (.tuple #[.string ⟨#[]⟩, .string ⟨#[]⟩, .string ⟨#[]⟩, .bool false]))
theorem BzAns.same {a b : ByteArray} {e e' : Ending} (h : BzAns a b e) (g : BzAns a b e') : ∃ (s t u : ByteArray) (o : Bool), e = .returned (.tuple #[.string s, .string t, .string u, .bool o]) ∧ e' = .returned (.tuple #[.string s, .string t, .string u, .bool o]) := by
  rcases h with ⟨h0, s, t, u, rfl, h1, h2, h3⟩ | ⟨h0, rfl⟩
  · rcases g with ⟨g0, s', t', u', rfl, g1, g2, g3⟩ | ⟨g0, rfl⟩
    · obtain rfl := h1.inj g1
      obtain rfl := h2.inj g2
      obtain rfl := h3.inj g3
      exact ⟨_, _, _, _, rfl, rfl⟩
    · rw [h0] at g0; cases g0
  · rcases g with ⟨g0, _⟩ | ⟨g0, rfl⟩
    · rw [h0] at g0; cases g0
    · exact ⟨_, _, _, _, rfl, rfl⟩
end Go.Proofs.YthbnacikomimfaaDoor

/-
  Rows of String: what the laws' own helpers over them answer.
-/
namespace Go.Proofs.YthbnacikomimfaaDoor
open Go.RowKit
set_option linter.unusedVariables false
/-- The cell of one. -/
def stringL (x : ByteArray) : List Value := [.string x]
theorem stringL_len (x : ByteArray) : (stringL x).length = 1 := rfl
theorem stringL_one (x : ByteArray) : ∀ u ∈ stringL x, u.oneCell' = true := by
  intro u hu
  simp [stringL] at hu
  subst hu; rfl
theorem info_string : (Tryd.prog.info? 9).map (fun i => (i.zero, i.size, i.bytes)) = some (some (.string ⟨#[]⟩), 1, 16) := by kernel_rfl
theorem make_string (n : Nat) (hn : n ≤ 1048576) (w : World) : (Instr.makeSlice 25 (.int .i64 (n : Int)) (.int .i64 (n : Int))).run Tryd.prog w = .ok (.slice (some ⟨w.heap.size, 0, none⟩) n n) (w.alloc (.cells ((List.replicate n (⟨#[]⟩ : ByteArray)).flatMap stringL).toArray 9)) := by
  obtain ⟨i, hi, hzz⟩ := Option.map_eq_some_iff.1 info_string
  simp only [Prod.mk.injEq] at hzz
  obtain ⟨hz, hs, hb⟩ := hzz
  have hr := run_make (P := Tryd.prog) w 25 9 i _ Tryd.underlying25 hi hz .i64 .i64 n n (by omega) (Int.le_refl _) (by rw [hb]; omega) (by omega)
  simp only [Int.toNat_natCast, hs] at hr
  rw [hr, ← made_rec stringL 1 stringL_len _ (⟨#[]⟩ : ByteArray) (by rfl) n]
  rfl
set_option maxHeartbeats 1000000 in
set_option maxRecDepth 100000 in
theorem szStringS_any (l : List ByteArray) (v : Value) (n : Int) (w : World) (hv : SlR w v stringL 1 l) (hs : ∀ i, i < l.length → (l.getD i default).size ≤ maxLen) (hn0 : 0 ≤ n) (hn1 : n ≤ 1048576) (hl : l.length ≤ maxLen) :
    Calls Tryd.prog 8 #[v, .int .i64 n] w fun e w' => (∃ r : Int, e = .returned (.int .i64 r) ∧ (r = -1 ∨ (0 ≤ r ∧ r ≤ n ∧ (l.length : Int) ≤ n ∧ ∀ i, i < l.length → ((l.getD i default).size : Int) ≤ n))) ∧ w' = w := by
  unfold maxLen at hl
  have HS := hideT' hs
  have HV := hideT' hv
  clear hs
  rcases hv with ⟨rfl, rfl⟩ | ⟨A, cap, rfl, hA, hb⟩
  · have h1 : ¬ n < 0 := by omega
    go_enter Tryd.func8, Tryd.ntmps8
    go_wp2_with fail
    go_loopg [1, 5] 0 (fun g x i wr => x = .int .i64 n ∧ i = .int .i64 0 ∧ wr = w)
    case atStart => exact ⟨by go_num, rfl, rfl⟩
    case round =>
      obtain ⟨rfl, rfl, rfl⟩ := hrel
      go_wp2
      go_ret
      exact ⟨⟨n, rfl, .inr ⟨hn0, by omega, by simpa using hn0, fun i hi => by simp at hi⟩⟩, rfl⟩
  · by_cases h : n - (l.length : Int) < 0
    · go_enter Tryd.func8, Tryd.ntmps8
      go_wp2
      go_ret
      exact ⟨⟨-1, rfl, .inl rfl⟩, rfl⟩
    · go_enter Tryd.func8, Tryd.ntmps8
      go_wp2_with fail
      go_loopg [1, 5] l.length (fun g x i wr => ∃ (m : Int) (k : Nat), g = l.length - k ∧ k ≤ l.length ∧ x = .int .i64 m ∧ 0 ≤ m ∧ m ≤ n ∧ i = .int .i64 (k : Int) ∧ Hid (∀ j, j < k → ((l.getD j default).size : Int) ≤ n) ∧ wr = w)
      case atStart => exact ⟨n - (l.length : Int), 0, rfl, by omega, by go_num, by omega, by omega, rfl, fun j hj => by omega, rfl⟩
      case round =>
        obtain ⟨m, k, hg, hk, rfl, hm0, hm1, rfl, HZ, rfl⟩ := hrel
        by_cases hlt : (k : Int) < (l.length : Int)
        · have hk' : k < l.length := by omega
          have hAr : ArgR wr A stringL 1 l := hA
          have hcell : wr.cell? (A.add (k * 1)) = some (.string (l.getD k default)) := by
            have := hAr k 0 (.string (l.getD k default)) hk' rfl
            rwa [Addr.add_zero'] at this
          rw [Nat.mul_one] at hcell
          obtain ⟨t, ht⟩ : ∃ t, t = l.getD k default := ⟨_, rfl⟩
          rw [← ht] at hcell
          have HTT := hideT' ht
          have hts : t.size ≤ maxLen := by rw [ht]; exact HS.out k hk'
          unfold maxLen at hts
          clear ht hAr
          by_cases hr : m - (t.size : Int) < 0
          · go_wp2
            go_ret
            exact ⟨⟨-1, rfl, .inl rfl⟩, rfl⟩
          · have HZ2 : Hid (∀ j, j < k + 1 → ((l.getD j default).size : Int) ≤ n) := fun j hj => by
              by_cases e : j = k
              · subst e; rw [← HTT.out]; omega
              · exact HZ.out j (by omega)
            go_wp2
            go_roundg (l.length - (k + 1))
            case measure => omega
            case rel => exact ⟨m - (t.size : Int), k + 1, rfl, by omega, rfl, by omega, by omega, by go_num, HZ2, rfl⟩
        · go_wp2
          go_ret
          exact ⟨⟨m, rfl, .inr ⟨hm0, hm1, by omega, fun i hi => HZ.out i (by omega)⟩⟩, rfl⟩
theorem size_string : (Tryd.prog.info? 9).map (·.size) = some 1 := by kernel_rfl
set_option maxHeartbeats 1000000 in
set_option maxRecDepth 100000 in
theorem toStringS_any (l : List (ByteArray)) (v : Value) (w : World) (hv : SlR w v stringL 1 l) (hl : l.length ≤ 1048576) :
    Calls Tryd.prog 10 #[v] w fun e w' => (∃ b : Nat, e = .returned (slR b l) ∧ w.heap.size ≤ b ∧ RecAt w' b 9 stringL l) ∧ Below w.heap.size w w' := by
  have HV := hideT' hv
  have hBn : Below w.heap.size w (w.alloc (.cells ((List.replicate l.length (⟨#[]⟩ : ByteArray)).flatMap stringL).toArray 9)) := (Below.refl _ _).alloc (Nat.le_refl _) _
  have hnew : RecAt (w.alloc (.cells ((List.replicate l.length (⟨#[]⟩ : ByteArray)).flatMap stringL).toArray 9)) w.heap.size 9 stringL (List.replicate l.length (⟨#[]⟩ : ByteArray)) := RowAt.new w _ _
  have HN := hideT' (And.intro hnew hBn)
  clear hnew hBn
  rcases hv with ⟨rfl, rfl⟩ | ⟨A, cap, rfl, hA, hb⟩
  · have hmk : ∀ w, (Instr.makeSlice 25 (.int .i64 0) (.int .i64 0)).run Tryd.prog w = .ok (.slice (some ⟨w.heap.size, 0, none⟩) 0 0) (w.alloc (.cells ((List.replicate 0 (⟨#[]⟩ : ByteArray)).flatMap stringL).toArray 9)) := fun w => make_string 0 (by omega) w
    go_enter Tryd.func10, Tryd.ntmps10
    go_wp2_with fail
    clear hmk
    go_loopg [4] 0 (fun g i wr => i = .int .i64 0 ∧ RecAt wr w.heap.size 9 stringL [] ∧ Below w.heap.size w wr)
    case atStart => exact ⟨rfl, HN.out.1, HN.out.2⟩
    case round =>
      obtain ⟨rfl, hD, hW⟩ := hrel
      go_wp2
      go_ret
      exact ⟨⟨w.heap.size, rfl, Nat.le_refl _, hD⟩, hW⟩
  · have hmk := make_string l.length hl
    go_enter Tryd.func10, Tryd.ntmps10
    go_wp2_with fail
    clear hmk
    go_loopg [4] l.length (fun g i wr => ∃ k : Nat, g = l.length - k ∧ k ≤ l.length ∧ i = .int .i64 (k : Int) ∧ RecAt wr w.heap.size 9 stringL (l.take k ++ List.replicate (l.length - k) (⟨#[]⟩ : ByteArray)) ∧ Below w.heap.size w wr)
    case atStart => exact ⟨0, rfl, by omega, rfl, HN.out.1, HN.out.2⟩
    case round =>
      obtain ⟨k, hg, hk, rfl, hD, hW⟩ := hrel
      have hsl := hD.lt
      by_cases hlt : (k : Int) < (l.length : Int)
      · have hk' : k < l.length := by omega
        have hAr : ArgR wr A stringL 1 l := HV.out.arg hW
        obtain ⟨d, hd⟩ : ∃ d, d = l.getD k default := ⟨_, rfl⟩
        have HAr : Hid (∀ j v, (stringL d)[j]? = some v → wr.cell? ((A.add (k * 1)).add j) = some v) := fun j v hv => hAr k j v hk' (by rw [← hd]; exact hv)
        have HDM := hideT' hd
        clear hd hAr
        have hlen : (l.take k ++ List.replicate (l.length - k) (⟨#[]⟩ : ByteArray)).length = l.length := by simp; omega
        have HLN := hideT' hlen
        clear hlen
        have hcell : wr.cell? (A.add k) = some (.string d) := by
          have := HAr.out 0 (.string d) rfl
          rwa [Addr.add_zero', Nat.mul_one] at this
        have hD2 := hD
        have hW3 := hW
        clear hD
        go_wp2_with (refine store_rec1 rfl 9 _ _ rfl rfl (fun x : ByteArray => .string x) (fun _ => rfl) size_string w.heap.size k d rfl rfl _ hD2 (by rw [HLN.out]; exact hk') ?_; intro w3 hD3 hg3 hs3)
        go_roundg (l.length - (k + 1))
        case measure => omega
        case rel =>
          refine ⟨k + 1, rfl, by omega, by go_num, ?_, hW3.grown hg3 (by omega) (by intro k hk; injection hk; omega)⟩
          rw [HDM.out, rec_take_set (⟨#[]⟩ : ByteArray) l k hk'] at hD3
          exact hD3
      · have hkn : k = l.length := by omega
        subst hkn
        have hDl : RecAt wr w.heap.size 9 stringL l := by
          have := hD
          rwa [List.take_length, Nat.sub_self, List.replicate_zero, List.append_nil] at this
        clear hD
        go_wp2
        go_ret
        exact ⟨⟨w.heap.size, rfl, Nat.le_refl _, hDl⟩, hW⟩
set_option maxHeartbeats 1000000 in
set_option maxRecDepth 100000 in
theorem eqStringS_any (b c : Nat) (l : List (ByteArray)) (w : World) (hl : l.length ≤ 1048576) (h1 : RecAt w b 9 stringL l) (h2 : RecAt w c 9 stringL l) :
    Calls Tryd.prog 12 #[slR b l, slR c l] w fun e w' => e = .returned (.bool true) ∧ Below w.heap.size w w' := by
  have H1 := hideT' h1
  have H2 := hideT' h2
  have hb := h1.lt
  have hc := h2.lt
  clear h1 h2
  go_enter Tryd.func12, Tryd.ntmps12
  go_wp2_with fail
  go_loopg [5] l.length (fun g i wr => ∃ k : Nat, g = l.length - k ∧ k ≤ l.length ∧ i = .int .i64 (k : Int) ∧ Below w.heap.size w wr)
  case atStart => exact ⟨0, rfl, by omega, rfl, Below.refl _ _⟩
  case round =>
    obtain ⟨k, hg, hk, rfl, hW⟩ := hrel
    by_cases hlt : (k : Int) < (l.length : Int)
    · have hk' : k < l.length := by omega
      obtain ⟨d, hd⟩ : ∃ d, d = l.getD k default := ⟨_, rfl⟩
      have HDM := hideT' hd
      clear hd
      have hcb : wr.cell? ⟨b, k, none⟩ = some (.string d) := by
        have := (H1.out.below hW hb).cell stringL_len k 0 hk' (by decide)
        rw [← HDM.out] at this
        simpa [stringL] using this
      have hcc : wr.cell? ⟨c, k, none⟩ = some (.string d) := by
        have := (H2.out.below hW hc).cell stringL_len k 0 hk' (by decide)
        rw [← HDM.out] at this
        simpa [stringL] using this
      go_wp2_with fail
      go_region
      go_wp2
      go_roundg (l.length - (k + 1))
      case measure => omega
      case rel => exact ⟨k + 1, rfl, by omega, by go_num, hW.drew⟩
    · go_wp2
      go_ret
      exact ⟨rfl, hW⟩
end Go.Proofs.YthbnacikomimfaaDoor

/-
  What spec.ChineseNat answers.
-/
namespace Go.Proofs.YthbnacikomimfaaDoor
open Go.RowKit
set_option linter.unusedVariables false

theorem str_at {w : World} {b : Nat} {l : List ByteArray} (h : RecAt w b 9 stringL l) {j : Nat} (hj : j < l.length) : w.cell? ⟨b, j, none⟩ = some (.string (l.getD j default)) := by
  have := RecAt.cell (c := 1) h stringL_len j 0 hj (by decide)
  rw [Nat.mul_one, Nat.add_zero] at this
  rw [this]; rfl
theorem mulT2 {a b : ByteArray} {n m : Nat} (w : World) (ha : Tx a n) (hb : Tx b m) (hsa : a.size ≤ 1200) (hsb : b.size ≤ 1200) :
    Calls Tryd.prog 30 #[.string a, .string b] w fun e w' => ∃ s : ByteArray, e = .returned (.string s) ∧ Tx s (n * m) ∧ Below w.heap.size w w' := by
  refine (l1Mul_big a b w hsa hsb ha.1 hb.1).mono ?_
  rintro e w' ⟨s, rfl, h1, h2, h3⟩
  exact ⟨s, rfl, ⟨h1, by rw [h2, ha.2, hb.2]⟩, h3⟩
theorem lt_ten_of {x i j : Nat} (h : x < 10 ^ i) (hj : i ≤ j) : x < 10 ^ j := Nat.lt_of_lt_of_le h (Nat.pow_le_pow_right (by decide) hj)
theorem chNo {rs ms : List ByteArray} (h : ¬ ChAll rs ms) : ChAns rs ms (.returned (.tuple #[.string ⟨#[]⟩, .string ⟨#[]⟩, .bool false])) := .inr ⟨h, rfl⟩

set_option maxHeartbeats 8000000 in
set_option maxRecDepth 100000 in
theorem specCh_any (rs ms : List ByteArray) (b1 b2 : Nat) (w : World) (hl1 : rs.length ≤ 1048576) (hl2 : ms.length ≤ 1048576) (hs1 : ∀ i, i < rs.length → (rs.getD i default).size ≤ maxLen) (hs2 : ∀ i, i < ms.length → (ms.getD i default).size ≤ maxLen) (hR1 : RecAt w b1 9 stringL rs) (hR2 : RecAt w b2 9 stringL ms) :
    Calls Tryd.prog 9 #[.slice (some ⟨b1, 0, none⟩) rs.length rs.length, .slice (some ⟨b2, 0, none⟩) ms.length ms.length] w fun e w' => ChAns rs ms e ∧ Below w.heap.size w w' := by
  have hb1 := RecAt.lt hR1
  have hb2 := RecAt.lt hR2
  have HR : Hid (∀ w', Below w.heap.size w w' → (∀ j, j < rs.length → w'.cell? ⟨b1, j, none⟩ = some (.string (rs.getD j default))) ∧ (∀ j, j < ms.length → w'.cell? ⟨b2, j, none⟩ = some (.string (ms.getD j default)))) := fun w' h => ⟨fun j hj => str_at (hR1.below h hb1) hj, fun j hj => str_at (hR2.below h hb2) hj⟩
  have HSZ := hideT (And.intro hs1 hs2)
  clear hR1 hR2 hs1 hs2
  obtain ⟨n, hn⟩ : ∃ n, n = rs.length := ⟨_, rfl⟩
  obtain ⟨k2, hk2⟩ : ∃ k2, k2 = ms.length := ⟨_, rfl⟩
  have HN := hideT (And.intro hn hk2)
  rw [← hn] at hl1 ⊢
  rw [← hk2] at hl2 ⊢
  clear hn hk2
  by_cases h1 : (1 : Int) ≤ (n : Int)
  rotate_left
  · have HNO := hideT (chNo (rs := rs) (ms := ms) (fun h => by have := h.one; have := HN.out.1; omega))
    go_enter Tryd.func9, Tryd.ntmps9
    go_wp2_with fail
    refine (l1In_any (n : Int) 1 20 _).mono ?_
    rintro e w' ⟨rfl, rfl⟩
    rw [decide_eq_false (show ¬ (1 : Int) ≤ (n : Int) by omega), Bool.false_and]
    go_wp2
    go_ret3
    exact ⟨HNO.out, Below.refl _ _⟩
  by_cases h20 : (n : Int) ≤ 20
  rotate_left
  · have HNO := hideT (chNo (rs := rs) (ms := ms) (fun h => by have := h.most; have := HN.out.1; omega))
    go_enter Tryd.func9, Tryd.ntmps9
    go_wp2_with fail
    refine (l1In_any (n : Int) 1 20 _).mono ?_
    rintro e w' ⟨rfl, rfl⟩
    rw [decide_eq_false (show ¬ (n : Int) ≤ 20 by omega), Bool.and_false]
    go_wp2
    go_ret3
    exact ⟨HNO.out, Below.refl _ _⟩
  by_cases hkn : k2 = n
  rotate_left
  · have HNO := hideT (chNo (rs := rs) (ms := ms) (fun h => by have := h.len; have := HN.out; omega))
    have hne : ((k2 : Int) != (n : Int)) = true := by simp; omega
    have hne2 : ¬ (k2 : Int) = (n : Int) := by omega
    clear hkn
    go_enter Tryd.func9, Tryd.ntmps9
    go_wp2_with fail
    refine (l1In_any (n : Int) 1 20 _).mono ?_
    rintro e w' ⟨rfl, rfl⟩
    rw [decide_eq_true h1, decide_eq_true h20, Bool.true_and]
    go_wp2
    go_ret3
    exact ⟨HNO.out, Below.refl _ _⟩
  subst hkn
  go_enter Tryd.func9, Tryd.ntmps9
  go_wp2_with fail
  refine (l1In_any (k2 : Int) 1 20 _).mono ?_
  rintro e w' ⟨rfl, rfl⟩
  rw [decide_eq_true h1, decide_eq_true h20, Bool.true_and]
  go_wp2_with fail
  go_loopg [39] k2 (fun g i wr => ∃ k : Nat, g = k2 - k ∧ k ≤ k2 ∧ i = .int .i64 (k : Int) ∧ Hid (ChPre rs ms k) ∧ Below w'.heap.size w' wr)
  case atStart => exact ⟨0, rfl, by omega, by go_num, ChPre.start rs ms, Below.refl _ _⟩
  case round =>
    obtain ⟨k, hg, hk, rfl, HP, hW⟩ := hrel
    by_cases hlt : (k : Int) < (k2 : Int)
    · have hk' : k < k2 := by omega
      obtain ⟨hc1, hc2⟩ := HR.out wr hW
      have cr := hc1 k (by have := HN.out.1; omega)
      have cm := hc2 k (by have := HN.out.2; omega)
      have hsr := HSZ.out.1 k (by have := HN.out.1; omega)
      have hsm := HSZ.out.2 k (by have := HN.out.2; omega)
      obtain ⟨r, hr⟩ : ∃ r, r = rs.getD k default := ⟨_, rfl⟩
      obtain ⟨m, hm⟩ : ∃ m, m = ms.getD k default := ⟨_, rfl⟩
      rw [← hr] at cr hsr
      rw [← hm] at cm hsm
      have HRM := hideT (And.intro hr hm)
      clear hr hm hc1 hc2
      go_wp2_with fail
      refine (l1Both_any m r _ hsm hsr).mono ?_
      rintro e w2 ⟨rfl, rfl⟩
      obtain ⟨q, hq⟩ : ∃ q, q = (goodB m.data.toList && goodB r.data.toList) := ⟨_, rfl⟩
      rw [← hq]
      have HQ := hideT hq
      clear hq
      cases q with
      | false =>
        have HNO := hideT (chNo (ChPre.fail (rs := rs) (ms := ms) (k := k) (by have := HN.out.1; omega) (.inl (by
          rw [← HRM.out.1, ← HRM.out.2]
          intro h; have := HQ.out; rw [h.1, h.2] at this; cases this))))
        go_wp2
        go_ret3
        exact ⟨HNO.out, hW⟩
      | true =>
      have hgg : goodB m.data.toList = true ∧ goodB r.data.toList = true := by
        have := HQ.out.symm
        rwa [Bool.and_eq_true] at this
      have HG := hideT hgg
      have htm : Tx m (dval m.data.toList) := ⟨good_canon hgg.1, rfl⟩
      have zm := htm.bytes [48] (by decide)
      rw [show dval [48] = 0 by decide] at zm
      have hms : m.size ≤ 600 := htm.size (good_lt hgg.1) (by omega)
      have HTM := hideT htm
      by_cases h0 : dval m.data.toList = 0
      · have HNO := hideT (chNo (ChPre.fail (rs := rs) (ms := ms) (k := k) (by have := HN.out.1; omega) (.inr (.inl (by rw [← HRM.out.2]; exact h0)))))
        rw [decide_eq_true h0] at zm
        clear hgg htm h0
        go_wp2
        go_ret3
        exact ⟨HNO.out, hW⟩
      · rw [decide_eq_false h0] at zm
        have H0 := hideT h0
        clear hgg htm h0
        go_wp2_with fail
        go_loopg [59] k (fun g i wq => ∃ j : Nat, g = k - j ∧ j ≤ k ∧ i = .int .i64 (j : Int) ∧ Hid (∀ i, i < j → Nat.gcd (dval (ms.getD i default).data.toList) (dval m.data.toList) = 1) ∧ Below w'.heap.size w' wq)
        case atStart => exact ⟨0, rfl, by omega, by go_num, fun i hi => by omega, hW⟩
        case round =>
          clear cr cm
          obtain ⟨j, hg2, hj, rfl, HJ, hW2⟩ := hrel
          by_cases hlj : (j : Int) < (k : Int)
          · have hj' : j < k := by omega
            obtain ⟨_, hc2⟩ := HR.out wr hW2
            have co := hc2 j (by have := HN.out.2; omega)
            have hgo := (HP.out.1 j hj').1
            obtain ⟨o, ho⟩ : ∃ o, o = ms.getD j default := ⟨_, rfl⟩
            rw [← ho] at co hgo
            have hto : Tx o (dval o.data.toList) := ⟨good_canon hgo, rfl⟩
            have hos : o.size ≤ 600 := hto.size (good_lt hgo) (by omega)
            have HO := hideT (And.intro ho hto)
            have hws := hW2.size
            clear ho hto hgo hc2
            go_wp2_with fail
            refine (l1Gcd_any o m _ (by omega) (by omega) HO.out.2.1 HTM.out.1).mono ?_
            rintro e w3 ⟨s, rfl, hc, hv, hW3⟩
            have hts : Tx s (Nat.gcd (dval o.data.toList) (dval m.data.toList)) := ⟨hc, hv⟩
            have zs := hts.bytes [49] (by decide)
            rw [show dval [49] = 1 by decide] at zs
            have hW3' := hW2.trans (hW3.mono hws)
            clear hc hv hts hW3
            by_cases hg1 : Nat.gcd (dval o.data.toList) (dval m.data.toList) = 1
            · rw [decide_eq_true hg1] at zs
              have HG1 := hideT hg1
              clear hg1
              go_wp2
              go_roundg (k - (j + 1))
              case measure => omega
              case rel =>
                refine ⟨j + 1, rfl, by omega, by go_num, fun i hi => ?_, hW3'⟩
                by_cases e : i = j
                · subst e; rw [← HO.out.1]; exact HG1.out
                · exact HJ.out i (by omega)
            · have HNO := hideT (chNo (ChPre.fail (rs := rs) (ms := ms) (k := k) (by have := HN.out.1; omega) (.inr (.inr ⟨j, hj', by rw [← HRM.out.2, ← HO.out.1]; exact hg1⟩))))
              rw [decide_eq_false hg1] at zs
              clear hg1
              go_wp2
              go_ret3
              exact ⟨HNO.out, hW3'⟩
          · have hjk : j = k := by omega
            have HPK : Hid (ChPre rs ms (k + 1)) := HP.out.step (by rw [← HRM.out.2]; exact HG.out.1) (by rw [← HRM.out.1]; exact HG.out.2) (by rw [← HRM.out.2]; exact H0.out) (fun i hi => by rw [← HRM.out.2]; exact HJ.out i (by omega))
            clear hjk
            go_wp2
            go_roundg (k2 - (k + 1))
            case measure => omega
            case rel => exact ⟨k + 1, rfl, by omega, by go_num, HPK, hW2⟩
    · have hkk : k = k2 := by omega
      rw [hkk] at HP
      clear hkk
      go_wp2_with fail
      go_loopg [11, 71] k2 (fun g v i wr => ∃ (k : Nat) (t : ByteArray), g = k2 - k ∧ k ≤ k2 ∧ v = .string t ∧ i = .int .i64 (k : Int) ∧ Hid (Tx t (prodL (mods (prs rs ms k))) ∧ prodL (mods (prs rs ms k)) < 10 ^ 600) ∧ Below w'.heap.size w' wr)
      case atStart => exact ⟨0, ⟨#[49]⟩, rfl, by omega, rfl, by go_num, ⟨⟨by decide, show dval [49] = 1 by decide⟩, one_lt_ten 600 (by decide)⟩, hW⟩
      case round =>
        obtain ⟨k, t, hg2, hk2, rfl, rfl, HT, hW2⟩ := hrel
        clear hW
        by_cases hlt2 : (k : Int) < (k2 : Int)
        · have hk' : k < k2 := by omega
          obtain ⟨_, hc2⟩ := HR.out wr hW2
          have cm := hc2 k (by have := HN.out.2; omega)
          obtain ⟨m, hm⟩ : ∃ m, m = ms.getD k default := ⟨_, rfl⟩
          rw [← hm] at cm
          have hgm : goodB m.data.toList = true := by rw [hm]; exact (HP.out.1 k hk').1
          have htm : Tx m (dval m.data.toList) := ⟨good_canon hgm, rfl⟩
          have hms : m.size ≤ 600 := htm.size (good_lt hgm) (by omega)
          have hts : t.size ≤ 600 := HT.out.1.size HT.out.2 (by omega)
          have HPS : Hid (prodL (mods (prs rs ms (k + 1))) = prodL (mods (prs rs ms k)) * dval m.data.toList) := by
            unfold Hid; rw [prs_succ, mods_append, prodL_append, hm]; simp [mods, prodL, prAt]
          have HM := hideT htm
          have hws := hW2.size
          clear hm hgm htm hc2
          go_wp2_with fail
          refine (mulT2 _ HT.out.1 HM.out (by omega) (by omega)).mono ?_
          rintro e w3 ⟨s, rfl, hts2, hW3⟩
          rw [← HPS.out] at hts2
          have hW3' := hW2.trans (hW3.mono hws)
          have HS := hideT hts2
          clear hts2 hW3
          by_cases hl : (s.size : Int) ≤ 600
          · have HL : Hid (prodL (mods (prs rs ms (k + 1))) < 10 ^ 600) := Tx.lt (k := 600) HS.out (by omega)
            have hl' : ¬ (600 : Int) < (s.size : Int) := by omega
            go_wp2
            go_roundg (k2 - (k + 1))
            case measure => omega
            case rel => exact ⟨k + 1, s, rfl, by omega, rfl, by go_num, ⟨HS.out, HL.out⟩, hW3'⟩
          · have HNO := hideT (chNo (rs := rs) (ms := ms) (fun h => by
              have h3 := h.ok.2.2
              have h4 := prod_le (rs := rs) (ms := ms) (k := k + 1) (n := rs.length) (by have := HN.out.1; omega) h.ok.1
              have h5 : s.size ≤ 600 := HS.out.size (Nat.lt_of_le_of_lt h4 h3) (by omega)
              omega))
            have hl' : (600 : Int) < (s.size : Int) := by omega
            go_wp2
            go_ret3
            exact ⟨HNO.out, hW3'⟩
        · have hkk : k = k2 := by omega
          rw [hkk] at HT
          clear hkk hg2
          obtain ⟨L, hL⟩ : ∃ L, L = prs rs ms k2 := ⟨_, rfl⟩
          have hLl : L.length = k2 := by rw [hL]; exact prs_len _ _ _
          obtain ⟨ALL, hALL⟩ : ∃ ALL, ALL = prodL (mods L) := ⟨_, rfl⟩
          rw [← hL, ← hALL] at HT
          have HL : Hid (L = prs rs ms rs.length) := by unfold Hid; rw [hL, HN.out.1]
          have hnz : ∀ p ∈ L, p.2 ≠ 0 := by rw [hL]; exact HP.out.2.1
          have hpw : (mods L).Pairwise Nat.Coprime := by rw [hL]; exact HP.out.2.2
          have hpos : 0 < ALL := by
            rw [hALL]
            refine prodL_pos fun x hx => ?_
            obtain ⟨p, hp, rfl⟩ := List.mem_map.1 hx
            exact Nat.pos_of_ne_zero (hnz p hp)
          have HCA : Hid (ChAll rs ms) := ⟨by have := HN.out.1; omega, by have := HN.out.1; omega, by have := HN.out; omega, allGood_of (fun i hi => (HP.out.1 i (by have := HN.out.1; omega)).2), allGood_of (fun i hi => (HP.out.1 i (by have := HN.out.2; omega)).1), ⟨by rw [← HL.out]; exact hnz, by rw [← HL.out]; exact hpw, by rw [← HL.out, ← hALL]; exact HT.out.2⟩⟩
          have HLK : Hid (∀ k, k < k2 → L.drop k = prAt rs ms k :: L.drop (k + 1)) := fun k hk => by
            rw [List.drop_eq_getElem_cons (by omega)]
            congr 1
            simp [hL, prs]
          have HLF := hideT (And.intro hALL (And.intro hnz (And.intro hpw hpos)))
          have hts : t.size ≤ 600 := HT.out.1.size HT.out.2 (by omega)
          clear hL hALL hnz hpw hpos
          go_wp2_with fail
          go_loopg [14, 84] k2 (fun g v i wr => ∃ (k : Nat) (xs : ByteArray) (X : Nat), g = k2 - k ∧ k ≤ k2 ∧ v = .string xs ∧ i = .int .i64 (k : Int) ∧ Hid (Tx xs X ∧ Part (L.take k) (L.drop k) X ∧ X < ALL) ∧ Below w'.heap.size w' wr)
          case atStart => exact ⟨0, ⟨#[48]⟩, 0, rfl, by omega, rfl, by go_num, ⟨⟨by decide, by decide⟩, Part.start _, HLF.out.2.2.2⟩, hW2⟩
          case round =>
            obtain ⟨k, xs, X, hg2, hk2, rfl, rfl, HX, hW3⟩ := hrel
            clear hW2
            by_cases hlt3 : (k : Int) < (k2 : Int)
            · have hk' : k < k2 := by omega
              obtain ⟨hc1, hc2⟩ := HR.out wr hW3
              have cr := hc1 k (by have := HN.out.1; omega)
              have cm := hc2 k (by have := HN.out.2; omega)
              have hdr := HLK.out k hk'
              have hsplit : L = L.take k ++ prAt rs ms k :: L.drop (k + 1) := by rw [← hdr, List.take_append_drop]
              obtain ⟨r, hr⟩ : ∃ r, r = rs.getD k default := ⟨_, rfl⟩
              obtain ⟨m, hm⟩ : ∃ m, m = ms.getD k default := ⟨_, rfl⟩
              rw [← hr] at cr
              rw [← hm] at cm
              have HRC : Hid (∀ wz, Below w'.heap.size w' wz → wz.cell? ⟨b1, k, none⟩ = some (.string r)) := fun wz hz => by
                have h := (HR.out wz hz).1 k (by have := HN.out.1; omega)
                rwa [← hr] at h
              have hgm : goodB m.data.toList = true := by rw [hm]; exact (HP.out.1 k hk').1
              have hgr : goodB r.data.toList = true := by rw [hr]; exact (HP.out.1 k hk').2
              obtain ⟨M, hM⟩ : ∃ M, M = dval m.data.toList := ⟨_, rfl⟩
              obtain ⟨R, hRR⟩ : ∃ R, R = dval r.data.toList := ⟨_, rfl⟩
              have hpr : prAt rs ms k = (R, M) := by unfold prAt; rw [hRR, hM, hr, hm]
              have htm : Tx m M := ⟨good_canon hgm, hM.symm⟩
              have htr : Tx r R := ⟨good_canon hgr, hRR.symm⟩
              have hMl : M < 10 ^ 600 := by rw [hM]; exact good_lt hgm
              have hRl : R < 10 ^ 600 := by rw [hRR]; exact good_lt hgr
              rw [hpr] at hdr hsplit
              have hM0 : M ≠ 0 := HLF.out.2.1 (R, M) (by rw [hsplit]; simp)
              obtain ⟨N, hNN⟩ : ∃ N, N = prodL (mods (L.take k)) * prodL (mods (L.drop (k + 1))) := ⟨_, rfl⟩
              have hAll : ALL = M * N := by rw [HLF.out.1, hNN]; conv => lhs; rw [hsplit, prod_split]
              have hdiv : ALL / M = N := by rw [hAll]; exact Nat.mul_div_cancel_left _ (Nat.pos_of_ne_zero hM0)
              have hgcd : Nat.gcd N M = 1 := by
                rw [hNN]
                have h := HLF.out.2.2.1
                rw [hsplit] at h
                exact cop_split h
              have hNl : N < 10 ^ 600 := Nat.lt_of_le_of_lt (by rw [hAll]; exact Nat.le_mul_of_pos_left _ (Nat.pos_of_ne_zero hM0)) HT.out.2
              have hms : m.size ≤ 600 := htm.size hMl (by omega)
              have hrs : r.size ≤ 600 := htr.size hRl (by omega)
              have hxs : xs.size ≤ 600 := HX.out.1.size (Nat.lt_trans HX.out.2.2 HT.out.2) (by omega)
              have HV := hideT (And.intro htm (And.intro htr (And.intro hMl (And.intro hRl (And.intro hM0 (And.intro hNl (And.intro hgcd hdiv)))))))
              have HD := hideT (And.intro hdr (And.intro hsplit hNN))
              have hws := hW3.size
              clear hr hm hgm hgr hM hRR hpr htm htr hMl hRl hdr hsplit hM0 hNN hAll hdiv hgcd hNl hc1 hc2
              go_wp2_with fail
              refine (divT _ HT.out.1 HV.out.1 (by omega) (by omega) HV.out.2.2.2.2.1).mono ?_
              rintro e w4 ⟨nt, rem, rfl, hnt, _, hW4⟩
              rw [HV.out.2.2.2.2.2.2.2] at hnt
              have hns : nt.size ≤ 600 := hnt.size HV.out.2.2.2.2.2.1 (by omega)
              have HNT := hideT hnt
              have hW4' := hW3.trans (hW4.mono hws)
              have hws4 := hW4'.size
              clear hnt hW4
              go_wp2_with fail
              refine (laBezout_any _ HNT.out HV.out.1 HV.out.2.2.2.2.2.1 HV.out.2.2.1).mono ?_
              rintro e w5 ⟨⟨gt, ut, vt, rfl, _, hut, _⟩, hW5⟩
              obtain ⟨U, hU⟩ : ∃ U, U = (bz M N 1 0 0 1).2.1 := ⟨_, rfl⟩
              have hbz := (bz_eq N M).1
              rw [HV.out.2.2.2.2.2.2.1] at hbz
              rw [← hU] at hut hbz
              obtain ⟨VV, hVV⟩ : ∃ VV, VV = (bz M N 1 0 0 1).2.2 := ⟨_, rfl⟩
              rw [← hVV] at hbz
              obtain ⟨pn, pt, pb, pok⟩ := hut.parts
              have hus : ut.size ≤ 601 := hut.size
              have hup : 0 < ut.size := by
                rcases Nat.eq_zero_or_pos ut.size with h | h
                · have he : ut.data.toList = [] := List.length_eq_zero_iff.1 (by simpa using h)
                  rw [he] at pok; exact absurd pok (by decide)
                · exact h
              have hng := neg_some hup
              rw [pn] at hng
              have HB := hideT (And.intro hbz (And.intro pt pok))
              have hW5' := hW4'.trans (hW5.mono hws4)
              have hws5 := hW5'.size
              clear hbz pt pb pok pn hut hW5 hU hVV
              go_wp2_with fail
              refine (l2Parts_any ut _ (by unfold maxLen; omega)).mono ?_
              rintro e w6 ⟨⟨g6, t6, u6, rfl, hp6⟩, hW6⟩
              obtain ⟨_, hgt6, hvt6, _, _⟩ := hp6 HB.out.2.2
              rw [HB.out.2.1] at hvt6
              have ht6 : Tx t6 U.natAbs := ⟨good_canon hgt6, hvt6⟩
              have hs6 : t6.size ≤ 600 := ht6.size (by rw [← hvt6]; exact good_lt hgt6) (by omega)
              have HT6 := hideT ht6
              have hW6' := hW5'.trans (hW6.mono hws5)
              have hws6 := hW6'.size
              obtain ⟨ok6, hok6⟩ : ∃ ok6, ok6 = okN ut.data.toList := ⟨_, rfl⟩
              rw [← hok6]
              clear hp6 hgt6 hvt6 ht6 hW6 hok6
              go_wp2_with fail
              refine (modT _ HT6.out HV.out.1 (by omega) (by omega) HV.out.2.2.2.2.1).mono ?_
              rintro e w7 ⟨s7, rfl, hs7, hW7⟩
              have hMp : 0 < M := Nat.pos_of_ne_zero HV.out.2.2.2.2.1
              have hl7 : s7.size ≤ 600 := hs7.size (Nat.lt_trans (Nat.mod_lt _ hMp) HV.out.2.2.1) (by omega)
              have z7 := hs7.bytes [48] (by decide)
              rw [show dval [48] = 0 by decide] at z7
              have hmz := modZ_eq (decide (U < 0)) U.natAbs M hMp
              have hUU : (if decide (U < 0) = true then -(U.natAbs : Int) else (U.natAbs : Int)) = U := by
                by_cases h : U < 0
                · rw [decide_eq_true h, if_pos rfl]; omega
                · rw [decide_eq_false h, if_neg (by decide)]; omega
              rw [hUU] at hmz
              have HMZ := hideT hmz
              have HS7 := hideT hs7
              have hW7' := hW6'.trans (hW7.mono hws6)
              have hws7 := hW7'.size
              clear hs7 hW7 hmz hUU
              by_cases hu0 : U < 0
              · rw [decide_eq_true hu0] at hng
                have h45 : ut[0] = 45 := eq_of_beq hng.symm
                have h45' : ut[0].toNat = 45 := by rw [h45]; rfl
                by_cases h70 : U.natAbs % M = 0
                · rw [decide_eq_true h70] at z7
                  have HIV : Hid (Tx s7 (modZ (decide (U < 0)) U.natAbs M)) := by unfold Hid modZ; rw [if_neg (fun h => h.2 h70)]; exact HS7.out
                  clear hng h45 h70 hMp
                  have cr7 := HRC.out _ hW7'
                  go_wp2_with fail
                  refine (modT _ HV.out.2.1 HV.out.1 (by omega) (by omega) HV.out.2.2.2.2.1).mono ?_
                  rintro e wa ⟨sa, rfl, hsa, hWa⟩
                  have hMp : 0 < M := Nat.pos_of_ne_zero HV.out.2.2.2.2.1
                  have hla : sa.size ≤ 600 := hsa.size (Nat.lt_trans (Nat.mod_lt _ hMp) HV.out.2.2.1) (by omega)
                  have HSA := hideT hsa
                  have hWa' := hW7'.trans (hWa.mono hws7)
                  have hwsa := hWa'.size
                  clear hsa hWa hMp
                  go_wp2_with fail
                  refine (mulT2 _ HSA.out HIV.out (by omega) (by omega)).mono ?_
                  rintro e wb ⟨sb, rfl, hsb, hWb⟩
                  have hlb : sb.size ≤ 600 + 600 := hsb.size (mul_lt_pow 600 600 (Tx.lt (k := 600) HSA.out hla) (Tx.lt (k := 600) HIV.out hl7)) (by omega)
                  have HSB := hideT hsb
                  have hWb' := hWa'.trans (hWb.mono hwsa)
                  have hwsb := hWb'.size
                  clear hsb hWb
                  go_wp2_with fail
                  refine (mulT2 _ HSB.out HNT.out (by omega) (by omega)).mono ?_
                  rintro e wc ⟨sc, rfl, hsc, hWc⟩
                  have hlc : sc.size ≤ 1200 + 600 := hsc.size (mul_lt_pow 1200 600 (Tx.lt (k := 1200) HSB.out hlb) HV.out.2.2.2.2.2.1) (by omega)
                  have HSC := hideT hsc
                  have hWc' := hWb'.trans (hWc.mono hwsb)
                  have hwsc := hWc'.size
                  clear hsc hWc
                  go_wp2_with fail
                  refine (addT _ HX.out.1 HSC.out (by omega) (by omega)).mono ?_
                  rintro e wd ⟨sd, rfl, hsd, hWd⟩
                  have hld : sd.size ≤ 1800 + 1 := hsd.size (by
                    have h1 : X < 10 ^ 1800 := lt_ten_of (i := 600) (j := 1800) (Tx.lt (k := 600) HX.out.1 hxs) (by decide)
                    have h2 := Tx.lt (k := 1800) HSC.out hlc
                    exact ten_add (j := 1800) h1 h2) (by omega)
                  have HSD := hideT hsd
                  have hWd' := hWc'.trans (hWd.mono hwsc)
                  have hwsd := hWd'.size
                  clear hsd hWd
                  go_wp2_with fail
                  refine (modT _ HSD.out HT.out.1 (by omega) (by omega) (Nat.ne_of_gt HLF.out.2.2.2)).mono ?_
                  rintro e we ⟨se, rfl, hse, hWe⟩
                  have hWe' := hWd'.trans (hWe.mono hwsd)
                  have HREL : Hid (Tx se ((X + R % M * modZ (decide (U < 0)) U.natAbs M * N) % ALL) ∧ Part (L.take (k + 1)) (L.drop (k + 1)) ((X + R % M * modZ (decide (U < 0)) U.natAbs M * N) % ALL) ∧ (X + R % M * modZ (decide (U < 0)) U.natAbs M * N) % ALL < ALL) := by
                    refine ⟨hse, ?_, Nat.mod_lt _ HLF.out.2.2.2⟩
                    have hp := HX.out.2.1
                    rw [HD.out.1] at hp
                    have hst := Part.step (p := (R, M)) (inv := modZ (decide (U < 0)) U.natAbs M) (u := U) (v := VV) hp HD.out.2.2 (by have := HB.out.1; push_cast at this ⊢; omega) HMZ.out
                    rw [← HD.out.2.1, ← HLF.out.1] at hst
                    have htk : L.take (k + 1) = L.take k ++ [(R, M)] := by
                      have h1 : L.take (k + 1) ++ L.drop (k + 1) = (L.take k ++ [(R, M)]) ++ L.drop (k + 1) := by
                        rw [List.take_append_drop, List.append_assoc]; exact HD.out.2.1
                      exact List.append_cancel_right h1
                    rw [htk]
                    exact hst
                  clear hse hWe
                  go_wp2
                  go_roundg (k2 - (k + 1))
                  case measure => omega
                  case rel => exact ⟨k + 1, se, _, rfl, by omega, rfl, by go_num, HREL, hWe'⟩
                · rw [decide_eq_false h70] at z7
                  have hle : U.natAbs % M ≤ M := Nat.le_of_lt (Nat.mod_lt _ hMp)
                  have HMZ2 : Hid (M - U.natAbs % M = modZ (decide (U < 0)) U.natAbs M) := by unfold Hid modZ; rw [if_pos ⟨decide_eq_true hu0, h70⟩]
                  have HLE := hideT hle
                  have hs8l : M - U.natAbs % M < 10 ^ 600 := by have := HV.out.2.2.1; omega
                  have HS8L := hideT hs8l
                  clear hng h45 h70 hMp hle hs8l
                  go_wp2_with fail
                  refine (subT _ HV.out.1 HS7.out (by omega) (by omega) HLE.out).mono ?_
                  rintro e w8 ⟨s8, rfl, hs8, hW8⟩
                  have hl8 : s8.size ≤ 600 := hs8.size HS8L.out (by omega)
                  rw [HMZ2.out] at hs8
                  have HIV := hideT hs8
                  have hW8' := hW7'.trans (hW8.mono hws7)
                  have hws8 := hW8'.size
                  clear hs8 hW8
                  have cr7 := HRC.out _ hW8'
                  go_wp2_with fail
                  refine (modT _ HV.out.2.1 HV.out.1 (by omega) (by omega) HV.out.2.2.2.2.1).mono ?_
                  rintro e wa ⟨sa, rfl, hsa, hWa⟩
                  have hMp : 0 < M := Nat.pos_of_ne_zero HV.out.2.2.2.2.1
                  have hla : sa.size ≤ 600 := hsa.size (Nat.lt_trans (Nat.mod_lt _ hMp) HV.out.2.2.1) (by omega)
                  have HSA := hideT hsa
                  have hWa' := hW8'.trans (hWa.mono hws8)
                  have hwsa := hWa'.size
                  clear hsa hWa hMp
                  go_wp2_with fail
                  refine (mulT2 _ HSA.out HIV.out (by omega) (by omega)).mono ?_
                  rintro e wb ⟨sb, rfl, hsb, hWb⟩
                  have hlb : sb.size ≤ 600 + 600 := hsb.size (mul_lt_pow 600 600 (Tx.lt (k := 600) HSA.out hla) (Tx.lt (k := 600) HIV.out hl8)) (by omega)
                  have HSB := hideT hsb
                  have hWb' := hWa'.trans (hWb.mono hwsa)
                  have hwsb := hWb'.size
                  clear hsb hWb
                  go_wp2_with fail
                  refine (mulT2 _ HSB.out HNT.out (by omega) (by omega)).mono ?_
                  rintro e wc ⟨sc, rfl, hsc, hWc⟩
                  have hlc : sc.size ≤ 1200 + 600 := hsc.size (mul_lt_pow 1200 600 (Tx.lt (k := 1200) HSB.out hlb) HV.out.2.2.2.2.2.1) (by omega)
                  have HSC := hideT hsc
                  have hWc' := hWb'.trans (hWc.mono hwsb)
                  have hwsc := hWc'.size
                  clear hsc hWc
                  go_wp2_with fail
                  refine (addT _ HX.out.1 HSC.out (by omega) (by omega)).mono ?_
                  rintro e wd ⟨sd, rfl, hsd, hWd⟩
                  have hld : sd.size ≤ 1800 + 1 := hsd.size (by
                    have h1 : X < 10 ^ 1800 := lt_ten_of (i := 600) (j := 1800) (Tx.lt (k := 600) HX.out.1 hxs) (by decide)
                    have h2 := Tx.lt (k := 1800) HSC.out hlc
                    exact ten_add (j := 1800) h1 h2) (by omega)
                  have HSD := hideT hsd
                  have hWd' := hWc'.trans (hWd.mono hwsc)
                  have hwsd := hWd'.size
                  clear hsd hWd
                  go_wp2_with fail
                  refine (modT _ HSD.out HT.out.1 (by omega) (by omega) (Nat.ne_of_gt HLF.out.2.2.2)).mono ?_
                  rintro e we ⟨se, rfl, hse, hWe⟩
                  have hWe' := hWd'.trans (hWe.mono hwsd)
                  have HREL : Hid (Tx se ((X + R % M * modZ (decide (U < 0)) U.natAbs M * N) % ALL) ∧ Part (L.take (k + 1)) (L.drop (k + 1)) ((X + R % M * modZ (decide (U < 0)) U.natAbs M * N) % ALL) ∧ (X + R % M * modZ (decide (U < 0)) U.natAbs M * N) % ALL < ALL) := by
                    refine ⟨hse, ?_, Nat.mod_lt _ HLF.out.2.2.2⟩
                    have hp := HX.out.2.1
                    rw [HD.out.1] at hp
                    have hst := Part.step (p := (R, M)) (inv := modZ (decide (U < 0)) U.natAbs M) (u := U) (v := VV) hp HD.out.2.2 (by have := HB.out.1; push_cast at this ⊢; omega) HMZ.out
                    rw [← HD.out.2.1, ← HLF.out.1] at hst
                    have htk : L.take (k + 1) = L.take k ++ [(R, M)] := by
                      have h1 : L.take (k + 1) ++ L.drop (k + 1) = (L.take k ++ [(R, M)]) ++ L.drop (k + 1) := by
                        rw [List.take_append_drop, List.append_assoc]; exact HD.out.2.1
                      exact List.append_cancel_right h1
                    rw [htk]
                    exact hst
                  clear hse hWe
                  go_wp2
                  go_roundg (k2 - (k + 1))
                  case measure => omega
                  case rel => exact ⟨k + 1, se, _, rfl, by omega, rfl, by go_num, HREL, hWe'⟩
              · rw [decide_eq_false hu0] at hng
                have hn45 : ut[0] ≠ 45 := fun e => by rw [e] at hng; cases hng
                have hn45' : ((ut[0].toNat : Int) == 45) = false := by
                  rw [beq_eq_false_iff_ne]
                  intro e; apply hn45; exact UInt8.toNat_inj.1 (by simpa using (by omega : ut[0].toNat = 45))
                have HIV : Hid (Tx s7 (modZ (decide (U < 0)) U.natAbs M)) := by unfold Hid modZ; rw [if_neg (fun h => hu0 (of_decide_eq_true h.1))]; exact HS7.out
                clear hng hn45 hMp
                have cr7 := HRC.out _ hW7'
                go_wp2_with fail
                refine (modT _ HV.out.2.1 HV.out.1 (by omega) (by omega) HV.out.2.2.2.2.1).mono ?_
                rintro e wa ⟨sa, rfl, hsa, hWa⟩
                have hMp : 0 < M := Nat.pos_of_ne_zero HV.out.2.2.2.2.1
                have hla : sa.size ≤ 600 := hsa.size (Nat.lt_trans (Nat.mod_lt _ hMp) HV.out.2.2.1) (by omega)
                have HSA := hideT hsa
                have hWa' := hW7'.trans (hWa.mono hws7)
                have hwsa := hWa'.size
                clear hsa hWa hMp
                go_wp2_with fail
                refine (mulT2 _ HSA.out HIV.out (by omega) (by omega)).mono ?_
                rintro e wb ⟨sb, rfl, hsb, hWb⟩
                have hlb : sb.size ≤ 600 + 600 := hsb.size (mul_lt_pow 600 600 (Tx.lt (k := 600) HSA.out hla) (Tx.lt (k := 600) HIV.out hl7)) (by omega)
                have HSB := hideT hsb
                have hWb' := hWa'.trans (hWb.mono hwsa)
                have hwsb := hWb'.size
                clear hsb hWb
                go_wp2_with fail
                refine (mulT2 _ HSB.out HNT.out (by omega) (by omega)).mono ?_
                rintro e wc ⟨sc, rfl, hsc, hWc⟩
                have hlc : sc.size ≤ 1200 + 600 := hsc.size (mul_lt_pow 1200 600 (Tx.lt (k := 1200) HSB.out hlb) HV.out.2.2.2.2.2.1) (by omega)
                have HSC := hideT hsc
                have hWc' := hWb'.trans (hWc.mono hwsb)
                have hwsc := hWc'.size
                clear hsc hWc
                go_wp2_with fail
                refine (addT _ HX.out.1 HSC.out (by omega) (by omega)).mono ?_
                rintro e wd ⟨sd, rfl, hsd, hWd⟩
                have hld : sd.size ≤ 1800 + 1 := hsd.size (by
                  have h1 : X < 10 ^ 1800 := lt_ten_of (i := 600) (j := 1800) (Tx.lt (k := 600) HX.out.1 hxs) (by decide)
                  have h2 := Tx.lt (k := 1800) HSC.out hlc
                  exact ten_add (j := 1800) h1 h2) (by omega)
                have HSD := hideT hsd
                have hWd' := hWc'.trans (hWd.mono hwsc)
                have hwsd := hWd'.size
                clear hsd hWd
                go_wp2_with fail
                refine (modT _ HSD.out HT.out.1 (by omega) (by omega) (Nat.ne_of_gt HLF.out.2.2.2)).mono ?_
                rintro e we ⟨se, rfl, hse, hWe⟩
                have hWe' := hWd'.trans (hWe.mono hwsd)
                have HREL : Hid (Tx se ((X + R % M * modZ (decide (U < 0)) U.natAbs M * N) % ALL) ∧ Part (L.take (k + 1)) (L.drop (k + 1)) ((X + R % M * modZ (decide (U < 0)) U.natAbs M * N) % ALL) ∧ (X + R % M * modZ (decide (U < 0)) U.natAbs M * N) % ALL < ALL) := by
                  refine ⟨hse, ?_, Nat.mod_lt _ HLF.out.2.2.2⟩
                  have hp := HX.out.2.1
                  rw [HD.out.1] at hp
                  have hst := Part.step (p := (R, M)) (inv := modZ (decide (U < 0)) U.natAbs M) (u := U) (v := VV) hp HD.out.2.2 (by have := HB.out.1; push_cast at this ⊢; omega) HMZ.out
                  rw [← HD.out.2.1, ← HLF.out.1] at hst
                  have htk : L.take (k + 1) = L.take k ++ [(R, M)] := by
                    have h1 : L.take (k + 1) ++ L.drop (k + 1) = (L.take k ++ [(R, M)]) ++ L.drop (k + 1) := by
                      rw [List.take_append_drop, List.append_assoc]; exact HD.out.2.1
                    exact List.append_cancel_right h1
                  rw [htk]
                  exact hst
                clear hse hWe
                go_wp2
                go_roundg (k2 - (k + 1))
                case measure => omega
                case rel => exact ⟨k + 1, se, _, rfl, by omega, rfl, by go_num, HREL, hWe'⟩
            · have hkk : k = k2 := by omega
              have HFIN : Hid (ChAns rs ms (.returned (.tuple #[.string xs, .string t, .bool true]))) := by
                have h := HX.out
                rw [hkk, List.take_of_length_le (by omega)] at h
                refine .inl ⟨HCA.out, xs, t, X, rfl, h.1, ?_, ?_, ?_⟩
                · rw [← HL.out, ← HLF.out.1]; exact HT.out.1
                · rw [← HL.out]; exact h.2.1.1
                · rw [← HL.out, ← HLF.out.1]; exact h.2.2
              clear hkk
              go_wp2
              go_ret3
              exact ⟨HFIN.out, hW3⟩
end Go.Proofs.YthbnacikomimfaaDoor

/-
  What divide of impl's whole numbers answers: written by gen/wholediv.py.
-/
namespace Go.Proofs.YthbnacikomimfaaDoor
open Go.RowKit
set_option linter.unusedVariables false

theorem run_row_whole {o : Oper} {a : Act} {w : World} (x : Operand) (ho : o.op = .load 69 x) (b : Nat) (hx : a.eval x = .pointer (some ⟨b, 0, none⟩)) (g : Bool) (u : Int) (p : List Int) (hN : WholeAt w b g u p) (hl : p.length = 204) :
    (execOp a.eval o).run Tryd.prog w = .ok (.value (.agg (wholeC g u p))) w := by
  unfold execOp
  simp only [ho, hx, Instr.loadAt, Instr.sureAddr, Sem.run_bind, Sem.run_pure, Result.andThen_ok, run_loadVar_row w b 69 69 (wholeC g u p) (0, 0) _ hN Tryd.underlying69 rfl (whole_info g u p hl)]
theorem res_whole2 {fn : Func} {x y : Tmp} (h : fn.results = #[.cell x 69, .cell y 69]) (tmps : Array Value) (w : World) (b c : Nat) (g g' : Bool) (n m : Int) (p q : List Int)
    (hx : tmps.getD x undef = .pointer (some ⟨b, 0, none⟩)) (hy : tmps.getD y undef = .pointer (some ⟨c, 0, none⟩)) (hN : WholeAt w b g n p) (hM : WholeAt w c g' m q) (hl : p.length = 204) (hm : q.length = 204) :
    (results fn tmps).run Tryd.prog w = .ok (.tuple #[.agg (wholeC g n p), .agg (wholeC g' m q)]) w := by
  have e1 := run_loadVar_row w b 69 69 (wholeC g n p) (0, 0) _ hN Tryd.underlying69 rfl (whole_info g n p hl)
  have e2 := run_loadVar_row w c 69 69 (wholeC g' m q) (0, 0) _ hM Tryd.underlying69 rfl (whole_info g' m q hm)
  have hx' : tmps[x]?.getD undef = .pointer (some ⟨b, 0, none⟩) := by simpa using hx
  have hy' : tmps[y]?.getD undef = .pointer (some ⟨c, 0, none⟩) := by simpa using hy
  simp [results, h, hx', hy', asAddr, e1, e2]

end Go.Proofs.YthbnacikomimfaaDoor

/-
  A drawn region in which operations and calls come up one behind the other, and besides, at any time, one new variable (x := f(g(..), h(..))): however many calls there are.
-/
namespace Go.Proofs.YthbnacikomimfaaDoor
open Go.RowKit
set_option linter.unusedVariables false

/-- The new variable is there, or not yet, whatever new memory there is besides. -/
def Fl (ops : Array Oper) (Q : Exit → Act → World → Prop) (md : Region.Mode) (S : World → Prop) (ia : Nat) (da : Tmp) (T : TypeId) (zero : Array Value) (B : Nat) (w0 : World) (fuel : Nat) (listed : Array Bool) (a : Act) : Prop :=
  ∀ w, Below w0.heap.size w0 w → wpAnyH Tryd.prog md ops Q S (fuel + 1) listed a w ∧
    ∀ px, RowAt w px T zero → B ≤ px → wpAnyH Tryd.prog md ops Q S fuel (listed.setIfInBounds ia true) (a.put (some da) (.pointer (some ⟨px, 0, none⟩))) w

section
variable {ops : Array Oper} {Q : Exit → Act → World → Prop} {md : Region.Mode} {S : World → Prop} {ia : Nat} {da : Tmp} {T : TypeId} {zero : Array Value} {B : Nat} {w0 : World} {fuel : Nat} {listed : Array Bool} {a : Act} {o oa : Oper}

theorem float_begin {id : Nat} {w : World} (S : World → Prop) (ia : Nat) (da : Tmp) (T : TypeId) (zero : Array Value) (B fuel : Nat) (hm : Tryd.prog.follows .mixedOrders = true) (hn : ops.size = fuel + 1) (h : Fl ops (NoPanic Q) .any S ia da T zero B w.drew fuel (Array.replicate ops.size false) a) : (Code.region id ops true).wp Tryd.prog Q a w := by
  refine held_begin S hm ?_
  have := (h w.drew (Below.refl _ _)).1
  rwa [← hn] at this

theorem float_val (i : Nat) (d : Tmp) (hi : ops[i]? = some o) (hd : o.dst = some d) (hs : Region.noSelect ops = true) (hf : Region.free md ops listed i = true) (hr : (Region.ready md ops listed).contains i = true)
    (hf' : Region.free md ops (listed.setIfInBounds ia true) i = true) (hr' : (Region.ready md ops (listed.setIfInBounds ia true)).contains i = true)
    (hQ : ∀ c a d v w, Q (.panic c) (Act.put a d v) w → Q (.panic c) a w) (hg : ∀ ts, Region.wanted o ts = true) (hne : i ≠ ia) (hde : d ≠ da) (v : Value)
    (hv : ∀ w, S w → (execOp a.eval o).run Tryd.prog w = .ok (.value v) w) (hv' : ∀ x w, S w → (execOp (a.put (some da) x).eval o).run Tryd.prog w = .ok (.value v) w)
    (hS : ∀ w, Below w0.heap.size w0 w → S w) (h : Fl ops Q md S ia da T zero B w0 fuel (listed.setIfInBounds i true) (a.put (some d) v)) : Fl ops Q md S ia da T zero B w0 (fuel + 1) listed a := by
  intro w hw
  obtain ⟨h1, h2⟩ := h w hw
  refine ⟨held_valS i (some d) hi hd hs hf hr hQ (hg _) v hv (hS w hw) h1, fun px hx hb => ?_⟩
  refine held_valS i (some d) hi hd hs hf' hr' hQ (hg _) v (hv' _) (hS w hw) ?_
  rw [Array.setIfInBounds_comm (xs := listed) true true (Ne.symm hne), put_comm2 _ da d _ _ (Ne.symm hde)]
  exact h2 px hx hb

theorem float_call (i : Nat) (d : Tmp) (hi : ops[i]? = some o) (hia : ops[ia]? = some oa) (hd : o.dst = some d) (hda : oa.dst = some da) (hoa : oa.op = .alloc T) (hg : ∀ ts, Region.wanted o ts = true) (hga : ∀ ts, Region.wanted oa ts = true)
    (hr : Region.ready md ops listed = [i, ia]) (hr' : Region.ready md ops (listed.setIfInBounds ia true) = [i]) (hne : i ≠ ia) (hde : d ≠ da)
    (hz : ∀ w, (zeroValue T).run Tryd.prog w = .ok (.agg zero) w) (hB : B ≤ w0.heap.size) (f : FuncId) (args : Array Value)
    (he : ∀ w, (execOp a.eval o).run Tryd.prog w = .ok (.enter f args) w) (he' : ∀ x w, (execOp (a.put (some da) x).eval o).run Tryd.prog w = .ok (.enter f args) w)
    (hS : ∀ w, Below w0.heap.size w0 w → S w) (R : World → Ending → World → Prop) (hc : ∀ w, Below w0.heap.size w0 w → Calls Tryd.prog f args w (R w))
    (h : ∀ w e w', Below w0.heap.size w0 w → R w e w' → ∃ v, e = .returned v ∧ Below w.heap.size w w' ∧ Fl ops Q md S ia da T zero B w' fuel (listed.setIfInBounds i true) (a.put (some d) v)) : Fl ops Q md S ia da T zero B w0 (fuel + 1) listed a := by
  have sec : ∀ w, Below w0.heap.size w0 w → ∀ px, RowAt w px T zero → B ≤ px → wpAnyH Tryd.prog md ops Q S (fuel + 1) (listed.setIfInBounds ia true) (a.put (some da) (.pointer (some ⟨px, 0, none⟩))) w := by
    intro w hw px hx hb
    refine wpAnyH_ready hr' (by simp) ?_
    refine ready_call2 i (some d) hi (hg _) hd f args (he' _ w) (R w) (hc w hw) ?_ AllReadyH.nil
    intro e w' hR
    obtain ⟨v, hv, hW, hF⟩ := h w e w' hw hR
    refine ⟨v, hv, hS _ (hw.trans (hW.mono hw.size)), ?_⟩
    rw [Array.setIfInBounds_comm (xs := listed) true true (Ne.symm hne), put_comm2 _ da d _ _ (Ne.symm hde)]
    exact (hF w' (Below.refl _ _)).2 px (hx.below hW hx.lt) hb
  intro w hw
  refine ⟨?_, sec w hw⟩
  refine wpAnyH_ready hr (by simp) ?_
  refine ready_call2 i (some d) hi (hg _) hd f args (he w) (R w) (hc w hw) ?_ ?_
  · intro e w' hR
    obtain ⟨v, hv, hW, hF⟩ := h w e w' hw hR
    exact ⟨v, hv, hS _ (hw.trans (hW.mono hw.size)), (hF w' (Below.refl _ _)).1⟩
  · have hw2 : Below w0.heap.size w0 (w.alloc (.cells zero T)) := hw.alloc hw.size _
    exact ready_val2 ia (some da) hia (hga _) hda _ _ (run_alloc1 hoa hz) (hS _ hw2) (sec _ hw2 w.heap.size (RowAt.new w T zero) (Nat.le_trans hB hw.size)) AllReadyH.nil

theorem float_end (hia : ops[ia]? = some oa) (hda : oa.dst = some da) (hoa : oa.op = .alloc T) (hga : ∀ ts, Region.wanted oa ts = true) (hr : Region.ready md ops listed = [ia])
    (hz : ∀ w, (zeroValue T).run Tryd.prog w = .ok (.agg zero) w) (hB : B ≤ w0.heap.size) (hS : ∀ w, Below w0.heap.size w0 w → S w)
    (h : ∀ w px, Below w0.heap.size w0 w → RowAt w px T zero → B ≤ px → wpAnyH Tryd.prog md ops Q S fuel (listed.setIfInBounds ia true) (a.put (some da) (.pointer (some ⟨px, 0, none⟩))) w) : Fl ops Q md S ia da T zero B w0 fuel listed a := by
  intro w hw
  refine ⟨?_, fun px hx hb => h w px hw hx hb⟩
  refine wpAnyH_ready hr (by simp) ?_
  have hw2 : Below w0.heap.size w0 (w.alloc (.cells zero T)) := hw.alloc hw.size _
  exact ready_val2 ia (some da) hia (hga _) hda _ _ (run_alloc1 hoa hz) (hS _ hw2) (h _ w.heap.size hw2 (RowAt.new w T zero) (Nat.le_trans hB hw.size)) AllReadyH.nil
end
end Go.Proofs.YthbnacikomimfaaDoor

/-
  Drawn regions some of whose operations write late; appends whose place is known.
-/
namespace Go.Proofs.YthbnacikomimfaaDoor.BL
open Go.RowKit Go.Proofs.YthbnacikomimfaaDoor
set_option linter.unusedVariables false

section
variable {P : Program} {ops : Array Oper} {Q : Exit → Act → World → Prop} {md : Region.Mode} {late : List Nat} {S : World → Prop}

/-- One of the late ones came up, or S holds. -/
def LateOr (late : List Nat) (S : World → Prop) (listed : Array Bool) (w : World) : Prop := (∃ k ∈ late, listed.getD k false = true) ∨ S w

/-- Whatever order is picked, S holding behind every operation till a late one came up. -/
def wpAnyL (P : Program) (md : Region.Mode) (ops : Array Oper) (Q : Exit → Act → World → Prop) (late : List Nat) (S : World → Prop) : Nat → Array Bool → Act → World → Prop
  | 0, listed, a, w => Region.ready md ops listed = [] ∧ Q .normal a w
  | fuel + 1, listed, a, w =>
    (Region.ready md ops listed = [] → Q .normal a w) ∧
    ∀ i ∈ Region.ready md ops listed, wpOp P ops Q i (fun a' w' => LateOr late S (listed.setIfInBounds i true) w' ∧ wpAnyL P md ops Q late S fuel (listed.setIfInBounds i true) a' w') a w

theorem wpAny_of_late : ∀ (fuel : Nat) (listed : Array Bool) (a : Act) (w : World), wpAnyL P md ops Q late S fuel listed a w → wpAny P md ops Q fuel listed a w
  | 0, _, _, _, h => h
  | fuel + 1, _, _, _, h => ⟨h.1, fun i hi => wpOp_mono (fun a' w' h' => wpAny_of_late fuel _ a' w' h'.2) (h.2 i hi)⟩

theorem wpAnyL_first {i : Nat} {oi : Oper} {v : Value} (hi : ops[i]? = some oi) (hsel : ∀ (j : Nat) (o : Oper) cs b, ops[j]? = some o → o.op ≠ .select cs b)
    (hQ : ∀ c a w, Q (.panic c) (a.put oi.dst v) w → Q (.panic c) a w) (W : List Nat) (hLW : ∀ k ∈ late, k ∈ W) (hil : i ∉ W) (hwait : ∀ k ∈ W, ∀ ok, ops[k]? = some ok → ∃ e ∈ ok.after, Region.binds md e = true ∧ (e.on = i ∨ e.on ∈ W)) :
    ∀ (fuel : Nat) (listed : Array Bool) (a : Act) (w : World),
      (∀ j oj, ops[j]? = some oj → j ≠ i → listed.getD j true = false → (∀ e ∈ oj.after, Region.binds md e = true → e.on ≠ i) → oi.apart ops oj = true) →
      (∀ k ∈ W, listed.getD k false = false) → i ∈ Region.ready md ops listed → YieldsIf P ops S oi v a → S w →
      wpAnyL P md ops Q late S fuel (listed.setIfInBounds i true) (a.put oi.dst v) w → wpAnyL P md ops Q late S (fuel + 1) listed a w := by
  intro fuel
  induction fuel with
  | zero =>
    intro listed a w _ _ hr hy hS H
    refine ⟨fun h => (by rw [h] at hr; cases hr), fun j hj => ?_⟩
    by_cases hji : j = i
    · subst hji; exact hy.wpOp hi hS ⟨.inr hS, H⟩
    · have := ready_mono hj hji
      rw [H.1] at this
      cases this
  | succ fuel ih =>
    intro listed a w hfree hlate hr hy hS H
    refine ⟨fun h => (by rw [h] at hr; cases hr), fun j hj => ?_⟩
    by_cases hji : j = i
    · subst hji; exact hy.wpOp hi hS ⟨.inr hS, H⟩
    · have h1 := H.2 j (ready_mono hj hji)
      obtain ⟨hjun, oj, hoj, hall⟩ := mem_ready.1 hj
      have hnot : ∀ e ∈ oj.after, Region.binds md e = true → e.on ≠ i := fun e he hb heq => by
        have h1 := hall e he hb
        have h0 := (mem_ready.1 hr).1
        rw [heq] at h1
        rcases Nat.lt_or_ge i listed.size with h' | h'
        · simp [h'] at h0 h1; rw [h0] at h1; cases h1
        · simp [Array.getElem?_eq_none h'] at h1
      have hjl : j ∉ W := fun hj' => by
        obtain ⟨e, he, hb, heq⟩ := hwait j hj' oj hoj
        rcases heq with heq | heq
        · exact hnot e he hb heq
        · have := hall e he hb
          rw [hlate _ heq] at this
          cases this
      have h2 := wpOp_putIf hoj (hfree j oj hoj hji hjun hnot) (fun cs b => hsel i oi cs b hi) (fun cs b => hsel j oj cs b hoj) hQ hy h1
      have hfree' : ∀ k ok, ops[k]? = some ok → k ≠ i → (listed.setIfInBounds j true).getD k true = false →
          (∀ e ∈ ok.after, Region.binds md e = true → e.on ≠ i) → oi.apart ops ok = true := fun k ok hk hki hun hno => by
        refine hfree k ok hk hki ?_ hno
        by_cases hjk : j = k
        · subst hjk; exact hjun
        · rw [getD_set_ne true hjk] at hun; exact hun
      have hlate' : ∀ k ∈ W, (listed.setIfInBounds j true).getD k false = false := fun k hk => by
        rw [getD_set_ne false (fun e => hjl (by rw [e]; exact hk))]; exact hlate k hk
      refine wpOp_mono (fun a' w' h3 => ?_) h2
      have hS' : S w' := by
        rcases h3.2.1 with ⟨k, hk, h⟩ | h
        · rw [getD_set_ne false (fun e => hjl (by rw [e]; exact hLW k hk)), getD_set_ne false (fun e => hil (by rw [e]; exact hLW k hk)), hlate k (hLW k hk)] at h
          cases h
        · exact h
      refine ⟨.inr hS', ih (listed.setIfInBounds j true) a' w' hfree' hlate' (ready_mono hr (Ne.symm hji)) h3.1 hS' ?_⟩
      rw [Array.setIfInBounds_comm _ _ hji]
      exact h3.2.2

/-- All of W, and so the late ones, wait for number i. -/
def waitsAll (md : Region.Mode) (ops : Array Oper) (late W : List Nat) (listed : Array Bool) (i : Nat) : Bool :=
  (late.all fun k => W.contains k) && (!W.contains i && W.all fun k => !listed.getD k false && match ops[k]? with
    | some ok => ok.after.any fun e => Region.binds md e && (e.on == i || W.contains e.on)
    | none => true)

/-- Number i may be taken first. -/
theorem late_val {o : Oper} {fuel : Nat} {listed : Array Bool} {a : Act} {w : World} (i : Nat) (d : Option Tmp) (hi : ops[i]? = some o) (hd : o.dst = d) (hs : Region.noSelect ops = true) (hf : Region.free md ops listed i = true) (hr : (Region.ready md ops listed).contains i = true)
    (W : List Nat) (hl : waitsAll md ops late W listed i = true) (hQ : ∀ c a d v w, Q (.panic c) (Act.put a d v) w → Q (.panic c) a w) (hw : Region.wanted o (yielded ops a.tmps) = true) (v : Value) (hv : ∀ w, S w → (execOp a.eval o).run P w = .ok (.value v) w) (hS : S w)
    (h : wpAnyL P md ops Q late S fuel (listed.setIfInBounds i true) (a.put d v) w) : wpAnyL P md ops Q late S (fuel + 1) listed a w := by
  subst hd
  unfold waitsAll at hl
  simp only [Bool.and_eq_true, Bool.not_eq_true', List.all_eq_true] at hl
  obtain ⟨hl0, hl1, hl2⟩ := hl
  refine wpAnyL_first hi (Region.noSelect_spec hs) (fun c a w => hQ c a _ _ w) W (fun k hk => by simpa using hl0 k hk) (fun h => by simp [h] at hl1) (fun k hk ok hok => ?_) fuel listed a w (Region.free_spec hi hf) (fun k hk => (hl2 k hk).1) (by simpa using hr) (.inl ⟨hw, hv⟩) hS h
  have h2 := (hl2 k hk).2
  rw [hok] at h2
  simp only [Array.any_eq_true', Bool.and_eq_true, Bool.or_eq_true, beq_iff_eq, List.contains_iff_mem] at h2
  exact h2

/-- The one operation that may come up. -/
theorem late_one {o : Oper} {fuel : Nat} {listed : Array Bool} {a : Act} {w : World} (i : Nat) (hr : Region.ready md ops listed = [i]) (hi : ops[i]? = some o) (hw : Region.wanted o (yielded ops a.tmps) = true)
    (h : ∀ K' : Act → World → Prop, Hid (∀ a w, LateOr late S (listed.setIfInBounds i true) w → wpAnyL P md ops Q late S fuel (listed.setIfInBounds i true) a w → K' a w) → Oper.wp P o a w K' Q) : wpAnyL P md ops Q late S (fuel + 1) listed a w := by
  refine ⟨fun h0 => (by rw [hr] at h0; cases h0), fun j hj => ?_⟩
  rw [hr] at hj
  simp only [List.mem_singleton] at hj
  subst hj
  refine wpOp_step hi fun K hK => ?_
  rw [if_pos hw]
  exact h K (fun a w h1 h2 => hK a w ⟨h1, h2⟩)

theorem late_done {listed : Array Bool} {a : Act} {w : World} (hr : Region.ready md ops listed = []) (h : Q .normal a w) :
    ∀ fuel, wpAnyL P md ops Q late S fuel listed a w
  | 0 => ⟨hr, h⟩
  | _ + 1 => ⟨fun _ => h, by rw [hr]; simp⟩
end

/-- The beginning. -/
theorem late_begin {ops : Array Oper} {Q : Exit → Act → World → Prop} {a : Act} {w : World} {id : Nat} (late : List Nat) (S : World → Prop) (hm : Tryd.prog.follows .mixedOrders = true) (h : wpAnyL Tryd.prog .any ops (NoPanic Q) late S ops.size (Array.replicate ops.size false) a w.drew) : (Code.region id ops true).wp Tryd.prog Q a w :=
  wp_region_noPanic (wp_region_any hm (wpAny_of_late _ _ _ _ h))

/-- A call. -/
theorem late_call {ops : Array Oper} {Q : Exit → Act → World → Prop} {md : Region.Mode} {late : List Nat} {S : World → Prop} {o : Oper} {fuel : Nat} {listed : Array Bool} {a : Act} {w : World} (i : Nat) (d : Option Tmp) (hr : Region.ready md ops listed = [i]) (hi : ops[i]? = some o) (hw : Region.wanted o (yielded ops a.tmps) = true) (hd : o.dst = d) (f : FuncId) (args : Array Value)
    (he : (execOp a.eval o).run Tryd.prog w = .ok (.enter f args) w) (R : Ending → World → Prop) (hc : Calls Tryd.prog f args w R)
    (h : ∀ e w', R e w' → ∃ v, e = .returned v ∧ LateOr late S (listed.setIfInBounds i true) w' ∧ wpAnyL Tryd.prog md ops Q late S fuel (listed.setIfInBounds i true) (a.put d v) w') : wpAnyL Tryd.prog md ops Q late S (fuel + 1) listed a w := by
  subst hd
  refine late_one i hr hi hw fun K hK => ?_
  unfold Oper.wp
  rw [he]
  simp only [Oper.upon]
  refine hc.mono ?_
  intro e w' hR
  obtain ⟨v, rfl, hS, hn⟩ := h e w' hR
  exact hK.out _ _ hS hn

/-- One cell of a row is written, as an operation. -/
theorem store_at_wp {op : Oper} {a : Act} {w : World} {K : Act → World → Prop} {Q : Exit → Act → World → Prop} (ty : TypeId) (x y : Operand) (ho : op.op = .store ty x y) (hd : op.dst = none)
    (b o : Nat) (v : Value) (hx : a.eval x = .pointer (some ⟨b, o, none⟩)) (hy : a.eval y = v) (hi : (Tryd.prog.info? ty).map (·.size) = some 1) (h1 : v.oneCell' = true) (t : TypeId) (cs : Array Value) (hR : RowAt w b t cs) (hon : o < cs.size)
    (h : ∀ w', RowAt w' b t (cs.setIfInBounds o v) → w.grownBy w' (some b) → w'.heap.size = w.heap.size → K a w') : op.wp Tryd.prog a w K Q := by
  have hc : (w.cell? ⟨b, o, none⟩).isSome = true := by rw [cell_of_row w b _ _ _ _ hR, Array.getElem?_eq_getElem hon]; rfl
  unfold Oper.wp execOp
  simp only [ho, hx, hy, Instr.storeAt, Instr.sureAddr, Sem.run_bind, Sem.run_pure, Result.andThen_ok, run_storeVar_cell w b o ty v hc (frozen_of_row w b _ _ _ hR) hi h1]
  have := h _ (heap_setCell_same w b o _ _ _ hR) (grown_set w b o v) (by simp)
  have e : a.put op.dst undef = a := by rw [hd]; rfl
  show K (a.put op.dst undef) _
  rw [e]
  exact this
/-- The one operation that may come up gives a value and changes the world. -/
theorem late_ready {ops : Array Oper} {Q : Exit → Act → World → Prop} {md : Region.Mode} {late : List Nat} {S : World → Prop} {o : Oper} {fuel : Nat} {listed : Array Bool} {a : Act} {w : World} (i : Nat) (d : Option Tmp) (hr : Region.ready md ops listed = [i]) (hi : ops[i]? = some o) (hw : Region.wanted o (yielded ops a.tmps) = true) (hd : o.dst = d) (v : Value) (w' : World)
    (he : (execOp a.eval o).run Tryd.prog w = .ok (.value v) w') (hS : LateOr late S (listed.setIfInBounds i true) w') (h : wpAnyL Tryd.prog md ops Q late S fuel (listed.setIfInBounds i true) (a.put d v) w') : wpAnyL Tryd.prog md ops Q late S (fuel + 1) listed a w := by
  subst hd
  refine late_one i hr hi hw fun K hK => ?_
  unfold Oper.wp
  rw [he]
  exact hK.out _ _ hS h
/-- Where a row lies that was added to: where it lay, or in the newest block. -/
theorem append_where {w : World} (base : Nat) (t ty e : TypeId) (i : TypeInfo) (z : Value) (size bytes : Nat) (ht : Tryd.prog.underlying t = some (.slice e)) (hi : Tryd.prog.info? e = some i) (hz : i.zero = some z) (hsize : i.size = size) (hby : i.bytes = bytes)
    (v : Value) (n : Nat) (xs : List Value) (hown : w.ownsRow base e size v n xs) (a : Addr) (m c : Nat) (news : List Value) (hl : news.length = m * size) (hnews : ∀ j u, news[j]? = some u → w.cell? (a.add j) = some u) (h1 : ∀ u ∈ news, u.oneCell' = true)
    (hm : 0 < m) (h63 : n + m ≤ maxLen) (hbytes : (n + m) * bytes ≤ 140737488355328) (v' : Value) (w' : World) (hrun : (Builtin.append_ #[t, t] ty #[v, .slice (some a) m c]).run Tryd.prog w = .ok v' w') : v'.ownBlock = v.ownBlock ∨ v'.ownBlock = some w.heap.size := by
  subst hsize
  subst hby
  have hsmall : n + m ≤ 9223372036854775807 := by simp only [maxLen] at h63; omega
  rcases hown.2 with ⟨rfl, rfl⟩ | ⟨g, cap, cur, rfl, hbg, hg, hnc, hcm, hcs, htake⟩
  · rw [run_append_nil (P := Tryd.prog) w t ty e i z ht hi hz a m c news hl hnews hm (by omega) (by simp only [Nat.zero_add] at hbytes; omega)] at hrun
    injection hrun with h2 h3
    right
    rw [← h2]; rfl
  · by_cases hroom : n + m ≤ cap
    · rw [run_append_room (P := Tryd.prog) w t ty e i ht hi g n cap cur hg a m c news hl hnews h1 hroom (by rw [hl, hcs, ← Nat.add_mul]; exact Nat.mul_le_mul_right _ hroom)] at hrun
      injection hrun with h2 h3
      left
      rw [← h2]; rfl
    · rw [run_append_grow (P := Tryd.prog) w t ty e i z ht hi hz ⟨g, 0, none⟩ n cap xs hown.1 (hown.cells (g := g) rfl) a m c news hl hnews (by omega) (by omega) (growslice_fits (by omega) hbytes)] at hrun
      injection hrun with h2 h3
      right
      rw [← h2]; rfl

/-- A row that one owns is added to, and one knows where it lies then. -/
theorem append_own3 (w : World) {ops : Array Oper} {rest : List Oper} {o : Oper} {a : Act} {Q : Exit → Act → World → Prop} (hgd : o.guard = none) (s x : Operand) (t : TypeId)
    (ho : o.op = .call { callee := .builtin .append, args := #[s, x], argTypes := #[t, t] })
    (base : Nat) (e : TypeId) (i : TypeInfo) (z : Value) (size bytes : Nat) (ht : Tryd.prog.underlying t = some (.slice e)) (hi : Tryd.prog.info? e = some i) (hz : i.zero = some z)
    (hsize : i.size = size) (hby : i.bytes = bytes) (hzs : z.cells.size = size) (hsz : 0 < size)
    (v : Value) (n : Nat) (xs : List Value) (hs : a.eval s = v) (hown : w.ownsRow base e size v n xs)
    (ad : Addr) (m c : Nat) (news : List Value) (hx : a.eval x = .slice (some ad) m c) (hl : news.length = m * size) (hnews : ∀ j u, news[j]? = some u → w.cell? (ad.add j) = some u) (h1 : ∀ u ∈ news, u.oneCell' = true) (hm : 0 < m)
    (h63 : n + m ≤ maxLen) (hbytes : (n + m) * bytes ≤ 140737488355328) (hbase : base ≤ w.heap.size)
    (h : ∀ v' w', w'.ownsRow base e size v' (n + m) (xs ++ news) → w.grownBy w' v.ownBlock → (v'.ownBlock = v.ownBlock ∨ v'.ownBlock = some w.heap.size) → wpList Tryd.prog ops Q rest (a.put o.dst v') w') : wpList Tryd.prog ops Q (o :: rest) a w :=
  wpList_plain hgd fun _ hK => by
    obtain ⟨v', w', hr, h2, h3, h4⟩ := run_append_own (P := Tryd.prog) w base t o.type e i z size bytes ht hi hz hsize hby hzs hsz v n xs hown ad m c news hl hnews h1 h63 hbytes hbase
    have h5 := append_where base t o.type e i z size bytes ht hi hz hsize hby v n xs hown ad m c news hl hnews h1 hm h63 hbytes v' w' hr
    unfold Oper.wp execOp
    simp only [ho, resolve, invoke, builtin, Sem.run_bind, Sem.run_pure, Result.andThen_ok, List.map_toArray, List.map_cons, List.map_nil, hs, hx, hr]
    exact hK _ _ (h v' w' h2 h3 h5)

/-- The same, of the operation alone. -/
theorem append_own3_wp (w : World) {o : Oper} {a : Act} {K : Act → World → Prop} {Q : Exit → Act → World → Prop} (s x : Operand) (t : TypeId)
    (ho : o.op = .call { callee := .builtin .append, args := #[s, x], argTypes := #[t, t] })
    (base : Nat) (e : TypeId) (i : TypeInfo) (z : Value) (size bytes : Nat) (ht : Tryd.prog.underlying t = some (.slice e)) (hi : Tryd.prog.info? e = some i) (hz : i.zero = some z)
    (hsize : i.size = size) (hby : i.bytes = bytes) (hzs : z.cells.size = size) (hsz : 0 < size)
    (v : Value) (n : Nat) (xs : List Value) (hs : a.eval s = v) (hown : w.ownsRow base e size v n xs)
    (ad : Addr) (m c : Nat) (news : List Value) (hx : a.eval x = .slice (some ad) m c) (hl : news.length = m * size) (hnews : ∀ j u, news[j]? = some u → w.cell? (ad.add j) = some u) (h1 : ∀ u ∈ news, u.oneCell' = true) (hm : 0 < m)
    (h63 : n + m ≤ maxLen) (hbytes : (n + m) * bytes ≤ 140737488355328) (hbase : base ≤ w.heap.size)
    (h : ∀ v' w', w'.ownsRow base e size v' (n + m) (xs ++ news) → w.grownBy w' v.ownBlock → (v'.ownBlock = v.ownBlock ∨ v'.ownBlock = some w.heap.size) → K (a.put o.dst v') w') : o.wp Tryd.prog a w K Q := by
  obtain ⟨v', w', hr, h2, h3, h4⟩ := run_append_own (P := Tryd.prog) w base t o.type e i z size bytes ht hi hz hsize hby hzs hsz v n xs hown ad m c news hl hnews h1 h63 hbytes hbase
  have h5 := append_where base t o.type e i z size bytes ht hi hz hsize hby v n xs hown ad m c news hl hnews h1 hm h63 hbytes v' w' hr
  unfold Oper.wp execOp
  simp only [ho, resolve, invoke, builtin, Sem.run_bind, Sem.run_pure, Result.andThen_ok, List.map_toArray, List.map_cons, List.map_nil, hs, hx, hr]
  exact h v' w' h2 h3 h5

theorem own_heap {w w' : World} {B n s : Nat} {e : TypeId} {v : Value} {xs : List Value} (h : w.ownsRow B e s v n xs) (hh : ∀ g, v.ownBlock = some g → w'.heap[g]? = w.heap[g]?) : w'.ownsRow B e s v n xs := by
  refine ⟨h.1, ?_⟩
  rcases h.2 with h1 | ⟨g, cap, cur, rfl, h2, h3, h4⟩
  · exact .inl h1
  · exact .inr ⟨g, cap, cur, rfl, h2, by rw [hh g rfl]; exact h3, h4⟩
/-- The one operation that may come up gives a value and changes the world. -/
theorem held_ready {ops : Array Oper} {Q : Exit → Act → World → Prop} {md : Region.Mode} {S : World → Prop} {o : Oper} {fuel : Nat} {listed : Array Bool} {a : Act} {w : World} (i : Nat) (d : Option Tmp) (hr : Region.ready md ops listed = [i]) (hi : ops[i]? = some o) (hw : Region.wanted o (yielded ops a.tmps) = true) (hd : o.dst = d) (v : Value) (w' : World)
    (he : (execOp a.eval o).run Tryd.prog w = .ok (.value v) w') (hS : S w') (h : wpAnyH Tryd.prog md ops Q S fuel (listed.setIfInBounds i true) (a.put d v) w') : wpAnyH Tryd.prog md ops Q S (fuel + 1) listed a w := by
  subst hd
  refine wpAnyH_ready hr (by simp) (AllReadyH.cons hi (fun K hK => ?_) AllReadyH.nil)
  rw [if_pos hw]
  unfold Oper.wp
  rw [he]
  exact hK.out _ _ hS (fun _ => h)
/-- A load of one cell, as an operation. -/
theorem run_cell1 {o : Oper} {a : Act} {w : World} (x : Operand) (T : TypeId) (ho : o.op = .load T x) (A : Addr) (hx : a.eval x = .pointer (some A)) (v : Value) {d : TypeDesc} (hu : Tryd.prog.underlying T = some d) (hd : d.isRow = false) (hc : w.cell? A = some v) :
    (execOp a.eval o).run Tryd.prog w = .ok (.value v) w := by
  have hagg : (isAgg T).run Tryd.prog w = .ok false w := by
    unfold isAgg
    rw [Sem.run_bind, run_underlying hu w]
    cases d <;> simp_all
  have hv : (loadVar T A).run Tryd.prog w = .ok v w := by simp [loadVar, hagg, go_sem, hc]
  unfold execOp
  simp only [ho, hx, Instr.loadAt, Instr.sureAddr, Sem.run_bind, Sem.run_pure, Result.andThen_ok, hv]
/-- A new row, as an operation. -/
theorem run_make1 {o : Oper} {a : Act} {w w' : World} (T : TypeId) (x y : Operand) (ho : o.op = .makeSlice T x y) (u v r : Value) (hx : a.eval x = u) (hy : a.eval y = v) (h : (Instr.makeSlice T u v).run Tryd.prog w = .ok r w') :
    (execOp a.eval o).run Tryd.prog w = .ok (.value r) w' := by
  unfold execOp
  simp only [ho, hx, hy, Sem.run_bind, Sem.run_pure, Result.andThen_ok, h]
end Go.Proofs.YthbnacikomimfaaDoor.BL

/-
  What less of impl's whole numbers answers; combinations (a number and two whole ones) in memory.
-/
namespace Go.Proofs.YthbnacikomimfaaDoor
open Go.RowKit
set_option linter.unusedVariables false

theorem sg_of (x : Int) : sg (decide (x < 0)) x.natAbs = x := sg_abs_of x
set_option maxHeartbeats 2000000 in
set_option maxRecDepth 100000 in
theorem less_any {k j m : Nat} {p q : List Int} (x y : Int) (g' : Bool) (w : World) (hP : Rep x.natAbs k p) (hQ : Rep m j q) (hy : sg g' m = y) (hk : k ≤ 201) (hj : j ≤ 201) :
    Calls Tryd.prog 66 #[.agg (wholeC (decide (x < 0)) k p), .agg (wholeC g' j q)] w fun e w' => ∃ (i : Nat) (r : List Int), e = .returned (.agg (wholeC (decide (x - y < 0)) i r)) ∧ Rep (x - y).natAbs i r ∧ Below w.heap.size w w' := by
  have hz := zero_whole.1
  have hp := hP.len
  have hq := hQ.len
  obtain ⟨g, hg⟩ : ∃ g, g = decide (x < 0) := ⟨_, rfl⟩
  have A := (WholeAt.new w g k p |> fun h => RowAt.old h (.cells (wholeC g' j q) 69) |> fun h => RowAt.old h (.cells (wholeC false 0 zP) 69))
  have B := (WholeAt.new (w.alloc (.cells (wholeC g k p) 69)) g' j q |> fun h => RowAt.old h (.cells (wholeC false 0 zP) 69))
  have C := WholeAt.new ((w.alloc (.cells (wholeC g k p) 69)).alloc (.cells (wholeC g' j q) 69)) false 0 zP
  have hB : Below w.heap.size w (((w.alloc (.cells (wholeC g k p) 69)).alloc (.cells (wholeC g' j q) 69)).alloc (.cells (wholeC false 0 zP) 69)) := (((Below.refl _ _).alloc (Nat.le_refl _) _).alloc (by first | (simp; done) | (simp; omega)) _).alloc (by first | (simp; done) | (simp; omega)) _
  have hws : (((w.alloc (.cells (wholeC g k p) 69)).alloc (.cells (wholeC g' j q) 69)).alloc (.cells (wholeC false 0 zP) 69)).heap.size = w.heap.size + 1 + 1 + 1 := by simp
  simp only [World.size_alloc] at B C
  rw [← hg]
  have HG := hide (And.intro hg hy)
  have HP := hide (And.intro hP hQ)
  clear hP hQ hg hy
  go_enter Tryd.func66, Tryd.ntmps66
  generalize hw0 : ((w.alloc (.cells (wholeC g k p) 69)).alloc (.cells (wholeC g' j q) 69)).alloc (.cells (wholeC false 0 zP) 69) = w0 at A B C hB hws
  go_wp2_with fail
  clear hw0
  refine held_begin (fun w' => WholeAt w' w.heap.size g k p ∧ WholeAt w' (w.heap.size + 1) g' j q) (by kernel_rfl) ?_
  have hS : WholeAt w0.drew w.heap.size g k p ∧ WholeAt w0.drew (w.heap.size + 1) g' j q := ⟨A, B⟩
  refine held_valS 0 (some 5) rfl rfl (by kernel_rfl) (by kernel_rfl) (by kernel_rfl) noPanic_put rfl (.agg (wholeC g k p)) (fun _ h => run_row_whole _ rfl w.heap.size rfl g k p h.1 hp) hS ?_
  simp only [Act.put, List.setIfInBounds_toArray, List.set_cons_zero, List.set_cons_succ]
  refine held_val 1 (some 6) rfl rfl (by kernel_rfl) (by kernel_rfl) (by kernel_rfl) noPanic_put rfl (.pointer (some ⟨w.heap.size + 1, 0, none⟩)) (fun _ => by go_simp) hS ?_
  simp only [Act.put, List.setIfInBounds_toArray, List.set_cons_zero, List.set_cons_succ]
  refine held_valS 2 (some 7) rfl rfl (by kernel_rfl) (by kernel_rfl) (by kernel_rfl) noPanic_put rfl (.bool g') (fun _ h => BL.run_cell1 (.tmp 6) 4 rfl ⟨w.heap.size + 1, 0, none⟩ rfl _ Tryd.underlying4 rfl h.2.neg) hS ?_
  simp only [Act.put, List.setIfInBounds_toArray, List.set_cons_zero, List.set_cons_succ]
  refine held_val 3 (some 8) rfl rfl (by kernel_rfl) (by kernel_rfl) (by kernel_rfl) noPanic_put rfl (.bool (!g')) (fun _ => by go_simp) hS ?_
  simp only [Act.put, List.setIfInBounds_toArray, List.set_cons_zero, List.set_cons_succ]
  refine held_val 4 (some 9) rfl rfl (by kernel_rfl) (by kernel_rfl) (by kernel_rfl) noPanic_put rfl (.pointer (some ⟨w.heap.size + 1, 1, none⟩)) (fun _ => by go_simp) hS ?_
  simp only [Act.put, List.setIfInBounds_toArray, List.set_cons_zero, List.set_cons_succ]
  refine held_valS 5 (some 10) rfl rfl (by kernel_rfl) (by kernel_rfl) (by kernel_rfl) noPanic_put rfl (.agg (natC j q)) (fun _ h => run_mid_nat _ rfl (w.heap.size + 1) 1 rfl j q h.2.size hq) hS ?_
  simp only [Act.put, List.setIfInBounds_toArray, List.set_cons_zero, List.set_cons_succ]
  refine held_call 6 (some 11) (by kernel_rfl) rfl rfl rfl 91 #[.bool (!g'), .agg (natC j q)] (by go_simp) _ (wholeOf_any (!g') j q w0.drew hq) ?_
  rintro e w1 ⟨rfl, hW1⟩
  have hs1 : w0.heap.size ≤ w1.heap.size := hW1.size
  have hS1 : WholeAt w1 w.heap.size g k p ∧ WholeAt w1 (w.heap.size + 1) g' j q := ⟨RowAt.below hS.1 hW1 (by show _ < w0.heap.size; omega), RowAt.below hS.2 hW1 (by show _ < w0.heap.size; omega)⟩
  refine ⟨_, rfl, hS1, ?_⟩
  simp only [Act.put, List.setIfInBounds_toArray, List.set_cons_zero, List.set_cons_succ]
  refine held_call 7 (some 12) (by kernel_rfl) rfl rfl rfl 90 #[.agg (wholeC g k p), .agg (wholeC (!g' && decide (0 < j)) j q)] (by go_simp) _ (added_any g (!g' && decide (0 < j)) w1 HP.out.1 HP.out.2 hk hj (fun h => by have := HG.out.1; rw [h] at this; have := of_decide_eq_true this.symm; omega)) ?_
  rintro e w2 ⟨i, r, rfl, hR, hW2⟩
  have hs2 := hW2.size
  have hS2 : WholeAt w2 w.heap.size g k p ∧ WholeAt w2 (w.heap.size + 1) g' j q := ⟨RowAt.below hS1.1 hW2 (by omega), RowAt.below hS1.2 hW2 (by omega)⟩
  have hrl := hR.len
  refine ⟨_, rfl, hS2, ?_⟩
  simp only [Act.put, List.setIfInBounds_toArray, List.set_cons_zero, List.set_cons_succ]
  have C2 : WholeAt w2 (w.heap.size + 1 + 1) false 0 zP := RowAt.below (RowAt.below (w := w0.drew) C hW1 (by show _ < w0.heap.size; omega)) hW2 (by omega)
  have hval : sg g x.natAbs + sg (!g' && decide (0 < j)) m = x - y := by
    have e1 : sg g x.natAbs = x := by rw [HG.out.1]; exact sg_of x
    have e2 : sg (!g' && decide (0 < j)) m = -y := by
      rw [← HG.out.2]
      by_cases h0 : m = 0
      · rw [h0]; unfold sg; simp
      · have hj0 : 0 < j := Nat.pos_of_ne_zero (fun h => h0 (HP.out.2.zero_iff.1 h))
        rw [decide_eq_true hj0, Bool.and_true]
        unfold sg; cases g' <;> simp
    rw [e1, e2]; omega
  rw [hval] at hR ⊢
  have HR := hide hR
  refine held_store_whole 8 (by kernel_rfl) rfl rfl _ _ rfl rfl (w.heap.size + 1 + 1) (decide (x - y < 0)) i r rfl rfl false 0 zP C2 zP_len hrl ?_
  intro w3 hN3 hg3 hs3
  refine ⟨⟨RowAt.grown hS2.1 hg3 (by simp; omega), RowAt.grown hS2.2 hg3 (by simp)⟩, ?_⟩
  refine wpAnyH_done (by kernel_rfl) ?_ _
  refine NoPanic.normal ?_
  have hB2 : Below w.heap.size w w2 := (hB.drew.trans (hW1.mono hB.size)).trans (hW2.mono (by have := hB.size; omega))
  go_wp2
  refine bodyPost_ret (v := .agg (wholeC (decide (x - y < 0)) i r)) (res_whole Tryd.results66 _ _ (w.heap.size + 1 + 1) _ _ _ rfl hN3 hrl) rfl ⟨i, r, rfl, HR.out, hB2.grown hg3 (by have := hB2.size; omega) (by intro k hk; cases hk; omega)⟩

/-- A combination's cells. -/
def combL (u : Int) (p : List Int) (g1 : Bool) (u1 : Int) (p1 : List Int) (g2 : Bool) (u2 : Int) (p2 : List Int) : List Value := natL u p ++ (Value.bool g1 :: natL u1 p1) ++ (Value.bool g2 :: natL u2 p2)
def combC (u : Int) (p : List Int) (g1 : Bool) (u1 : Int) (p1 : List Int) (g2 : Bool) (u2 : Int) (p2 : List Int) : Array Value := (combL u p g1 u1 p1 g2 u2 p2).toArray
def CombAt (w : World) (b : Nat) (u : Int) (p : List Int) (g1 : Bool) (u1 : Int) (p1 : List Int) (g2 : Bool) (u2 : Int) (p2 : List Int) : Prop := RowAt w b 94 (combC u p g1 u1 p1 g2 u2 p2)
section
variable {w : World} {b : Nat} {u : Int} {p : List Int} {g1 : Bool} {u1 : Int} {p1 : List Int} {g2 : Bool} {u2 : Int} {p2 : List Int}
theorem CombAt.sum (h : CombAt w b u p g1 u1 p1 g2 u2 p2) : w.rangeAt b 0 (natL u p) := by
  have h' : RowAt w b 94 ([] ++ natL u p ++ ((Value.bool g1 :: natL u1 p1) ++ (Value.bool g2 :: natL u2 p2))).toArray := by
    have := h; unfold CombAt combC combL at this; simpa using this
  exact h'.range
theorem CombAt.x (h : CombAt w b u p g1 u1 p1 g2 u2 p2) (hp : p.length = 204) : w.rangeAt b 205 (Value.bool g1 :: natL u1 p1) := by
  have h' : RowAt w b 94 (natL u p ++ (Value.bool g1 :: natL u1 p1) ++ (Value.bool g2 :: natL u2 p2)).toArray := h
  have := h'.range
  rwa [natL_len, hp] at this
theorem CombAt.y (h : CombAt w b u p g1 u1 p1 g2 u2 p2) (hp : p.length = 204) (hp1 : p1.length = 204) : w.rangeAt b 411 (Value.bool g2 :: natL u2 p2) := by
  have h' : RowAt w b 94 ((natL u p ++ (Value.bool g1 :: natL u1 p1)) ++ (Value.bool g2 :: natL u2 p2) ++ []).toArray := by
    have := h; unfold CombAt combC combL at this; simpa using this
  have := h'.range
  rwa [List.length_append, List.length_cons, natL_len, natL_len, hp, hp1] at this
theorem CombAt.used (h : CombAt w b u p g1 u1 p1 g2 u2 p2) : w.cell? ⟨b, 0, none⟩ = some (.int .i64 u) := h.sum 0 _ rfl
end
theorem comb_len (u : Int) (p : List Int) (g1 : Bool) (u1 : Int) (p1 : List Int) (g2 : Bool) (u2 : Int) (p2 : List Int) (h : p.length = 204) (h1 : p1.length = 204) (h2 : p2.length = 204) : (combC u p g1 u1 p1 g2 u2 p2).size = 617 := by
  simp [combC, combL, natL_len, h, h1, h2]
theorem zero_comb : (∀ w, (zeroValue 94).run Tryd.prog w = .ok (.agg (combC 0 zP false 0 zP false 0 zP)) w) ∧ (Tryd.prog.info? 94).map (·.size) = some 617 := zero_of_info (by kernel_rfl)
theorem comb_info (u : Int) (p : List Int) (g1 : Bool) (u1 : Int) (p1 : List Int) (g2 : Bool) (u2 : Int) (p2 : List Int) (h : p.length = 204) (h1 : p1.length = 204) (h2 : p2.length = 204) : (Tryd.prog.info? 94).map (·.size) = some (combC u p g1 u1 p1 g2 u2 p2).size := by
  rw [comb_len u p g1 u1 p1 g2 u2 p2 h h1 h2]; exact zero_comb.2
theorem comb_one (u : Int) (p : List Int) (g1 : Bool) (u1 : Int) (p1 : List Int) (g2 : Bool) (u2 : Int) (p2 : List Int) : (combC u p g1 u1 p1 g2 u2 p2).all (·.oneCell') = true := by
  rw [Array.all_eq_true_iff_forall_mem]
  intro v hv
  simp only [combC, combL, List.mem_toArray, List.mem_append, List.mem_cons] at hv
  rcases hv with (h | h | h) | h | h
  · exact natL_one _ _ v h
  · rw [h]; rfl
  · exact natL_one _ _ v h
  · rw [h]; rfl
  · exact natL_one _ _ v h
theorem comb_places : ∃ fields : Array Field, Tryd.prog.underlying 94 = some (.struct fields) ∧ fields.toList.mapM (fun f => (Tryd.prog.info? f.type).map fun i => (f.offset, i.size)) = some [(0, 205), (205, 206), (411, 206)] := by
  exact ⟨_, Tryd.underlying94, by kernel_rfl⟩
theorem wholeL (g : Bool) (u : Int) (p : List Int) : (Value.agg (wholeC g u p)).cells.toList = Value.bool g :: natL u p := rfl
theorem built_comb3 (u : Int) (p : List Int) (g1 : Bool) (u1 : Int) (p1 : List Int) (g2 : Bool) (u2 : Int) (p2 : List Int) (h : p.length = 204) (h1 : p1.length = 204) (h2 : p2.length = 204) : Tryd.prog.built 94 [(0, .agg (natC u p)), (1, .agg (wholeC g1 u1 p1)), (2, .agg (wholeC g2 u2 p2))] = some (combC u p g1 u1 p1 g2 u2 p2) := by
  obtain ⟨fs, e1, e2⟩ := comb_places
  have hz : (Tryd.prog.info? 94).bind (·.zero) = some (.agg (combC 0 zP false 0 zP false 0 zP)) := by kernel_rfl
  rw [built_of e1 hz e2]
  have s0 : combC 0 zP false 0 zP false 0 zP = (([] : List Value) ++ natL 0 zP ++ ((Value.bool false :: natL 0 zP) ++ (Value.bool false :: natL 0 zP))).toArray := by simp [combC, combL]
  rw [s0, fill_step _ [] (natL 0 zP) _ 0 _ _ (by rw [natL_len, zP_len]; rfl) (by rw [cells_agg, natC_eq]; simp [natL_len, zP_len, h])]
  rw [show (([] : List Value) ++ (Value.agg (natC u p)).cells.toList ++ ((Value.bool false :: natL 0 zP) ++ (Value.bool false :: natL 0 zP))).toArray = (natL u p ++ (Value.bool false :: natL 0 zP) ++ (Value.bool false :: natL 0 zP)).toArray by rw [cells_agg, natC_eq]; simp]
  rw [fill_step _ (natL u p) (Value.bool false :: natL 0 zP) _ 1 _ _ (by rw [natL_len, h, List.length_cons, natL_len, zP_len]; rfl) (by rw [wholeL]; simp [natL_len, zP_len, h1]), wholeL]
  rw [show (natL u p ++ (Value.bool g1 :: natL u1 p1) ++ (Value.bool false :: natL 0 zP)).toArray = ((natL u p ++ (Value.bool g1 :: natL u1 p1)) ++ (Value.bool false :: natL 0 zP) ++ []).toArray by simp]
  rw [fill_step _ (natL u p ++ (Value.bool g1 :: natL u1 p1)) (Value.bool false :: natL 0 zP) [] 2 _ _ (by rw [List.length_append, List.length_cons, List.length_cons, natL_len, natL_len, natL_len, zP_len, h, h1]; rfl) (by rw [wholeL]; simp [natL_len, zP_len, h2]), wholeL]
  simp [Instr.fill, combC, combL]
theorem built_comb01 (u : Int) (p : List Int) (g1 : Bool) (u1 : Int) (p1 : List Int) (h : p.length = 204) (h1 : p1.length = 204) : Tryd.prog.built 94 [(0, .agg (natC u p)), (1, .agg (wholeC g1 u1 p1))] = some (combC u p g1 u1 p1 false 0 zP) := by
  obtain ⟨fs, e1, e2⟩ := comb_places
  have hz : (Tryd.prog.info? 94).bind (·.zero) = some (.agg (combC 0 zP false 0 zP false 0 zP)) := by kernel_rfl
  rw [built_of e1 hz e2]
  have s0 : combC 0 zP false 0 zP false 0 zP = (([] : List Value) ++ natL 0 zP ++ ((Value.bool false :: natL 0 zP) ++ (Value.bool false :: natL 0 zP))).toArray := by simp [combC, combL]
  rw [s0, fill_step _ [] (natL 0 zP) _ 0 _ _ (by rw [natL_len, zP_len]; rfl) (by rw [cells_agg, natC_eq]; simp [natL_len, zP_len, h])]
  rw [show (([] : List Value) ++ (Value.agg (natC u p)).cells.toList ++ ((Value.bool false :: natL 0 zP) ++ (Value.bool false :: natL 0 zP))).toArray = (natL u p ++ (Value.bool false :: natL 0 zP) ++ (Value.bool false :: natL 0 zP)).toArray by rw [cells_agg, natC_eq]; simp]
  rw [fill_step _ (natL u p) (Value.bool false :: natL 0 zP) _ 1 _ _ (by rw [natL_len, h, List.length_cons, natL_len, zP_len]; rfl) (by rw [wholeL]; simp [natL_len, zP_len, h1]), wholeL]
  simp [Instr.fill, combC, combL]
theorem built_comb02 (u : Int) (p : List Int) (g2 : Bool) (u2 : Int) (p2 : List Int) (h : p.length = 204) (h2 : p2.length = 204) : Tryd.prog.built 94 [(0, .agg (natC u p)), (2, .agg (wholeC g2 u2 p2))] = some (combC u p false 0 zP g2 u2 p2) := by
  obtain ⟨fs, e1, e2⟩ := comb_places
  have hz : (Tryd.prog.info? 94).bind (·.zero) = some (.agg (combC 0 zP false 0 zP false 0 zP)) := by kernel_rfl
  rw [built_of e1 hz e2]
  have s0 : combC 0 zP false 0 zP false 0 zP = (([] : List Value) ++ natL 0 zP ++ ((Value.bool false :: natL 0 zP) ++ (Value.bool false :: natL 0 zP))).toArray := by simp [combC, combL]
  rw [s0, fill_step _ [] (natL 0 zP) _ 0 _ _ (by rw [natL_len, zP_len]; rfl) (by rw [cells_agg, natC_eq]; simp [natL_len, zP_len, h])]
  rw [show (([] : List Value) ++ (Value.agg (natC u p)).cells.toList ++ ((Value.bool false :: natL 0 zP) ++ (Value.bool false :: natL 0 zP))).toArray = ((natL u p ++ (Value.bool false :: natL 0 zP)) ++ (Value.bool false :: natL 0 zP) ++ []).toArray by rw [cells_agg, natC_eq]; simp]
  rw [fill_step _ (natL u p ++ (Value.bool false :: natL 0 zP)) (Value.bool false :: natL 0 zP) [] 2 _ _ (by rw [List.length_append, List.length_cons, natL_len, natL_len, zP_len, h]; rfl) (by rw [wholeL]; simp [natL_len, zP_len, h2]), wholeL]
  simp [Instr.fill, combC, combL]
/-- A row of whatever struct is read whole. -/
theorem run_rowT {o : Oper} {a : Act} {w : World} (x : Operand) (T : TypeId) (ho : o.op = .load T x) (b : Nat) (hx : a.eval x = .pointer (some ⟨b, 0, none⟩)) (cs : Array Value) (fs : Array Field) (hN : RowAt w b T cs) (hu : Tryd.prog.underlying T = some (.struct fs)) (hi : (Tryd.prog.info? T).map (·.size) = some cs.size) :
    (execOp a.eval o).run Tryd.prog w = .ok (.value (.agg cs)) w := by
  unfold execOp
  simp only [ho, hx, Instr.loadAt, Instr.sureAddr, Sem.run_bind, Sem.run_pure, Result.andThen_ok, run_loadVar_row w b T T cs (0, 0) _ hN hu rfl hi]
end Go.Proofs.YthbnacikomimfaaDoor

/-
  What impl.readAll answers: rows of nats in memory.
-/
namespace Go.Proofs.YthbnacikomimfaaDoor
open Go.RowKit
set_option linter.unusedVariables false

abbrev PartsX : Type := {p : List Int // p.length = 204}
instance : Inhabited PartsX := ⟨⟨zP, zP_len⟩⟩
abbrev NatX : Type := Int × PartsX
def natXL (x : NatX) : List Value := (x.1 :: x.2.1).map (Value.int .i64)
theorem natXL_len (x : NatX) : (natXL x).length = 205 := by simp [natXL, x.2.2]
theorem natXL_one (x : NatX) : ∀ u ∈ natXL x, u.oneCell' = true := by
  intro u hu
  simp only [natXL, List.mem_map] at hu
  obtain ⟨y, _, rfl⟩ := hu; rfl
def zN : NatX := (0, ⟨zP, zP_len⟩)
theorem nat_all : ∃ i, Tryd.prog.info? 40 = some i ∧ i.zero = some (.agg (natC 0 zP)) ∧ i.size = 205 ∧ i.bytes = 1640 := by
  have h : (Tryd.prog.info? 40).map (fun i => (i.zero, i.size, i.bytes)) = some (some (.agg (natC 0 zP)), 205, 1640) := by kernel_rfl
  cases hq : Tryd.prog.info? 40 with
  | none => simp [hq] at h
  | some i => simp [hq] at h; exact ⟨i, rfl, h.1, h.2.1, h.2.2⟩
theorem make_nats (n : Nat) (hn : n ≤ 1000) (w : World) : (Instr.makeSlice 60 (.int .i64 (n : Int)) (.int .i64 (n : Int))).run Tryd.prog w = .ok (.slice (some ⟨w.heap.size, 0, none⟩) n n) (w.alloc (.cells ((List.replicate n zN).flatMap natXL).toArray 40)) := by
  obtain ⟨i, hi, hz, hs, hb⟩ := nat_all
  have hr := run_make (P := Tryd.prog) w 60 40 i _ Tryd.underlying60 hi hz .i64 .i64 n n (by omega) (Int.le_refl _) (by rw [hb]; omega) (by omega)
  simp only [Int.toNat_natCast, hs] at hr
  rw [hr, ← made_rec natXL 205 natXL_len _ zN (by rfl) n]
  rfl
/-- The nats that texts tell. -/
def AllNats (l : List ByteArray) (ys : List NatX) : Prop := ys.length = l.length ∧ ∀ i, i < l.length → ∃ k : Nat, (ys.getD i default).1 = (k : Int) ∧ Rep (dval (l.getD i default).data.toList) k (ys.getD i default).2.1
/-- What readAll answers. -/
def RaAns (l : List ByteArray) (w : World) (e : Ending) (w' : World) : Prop :=
  (l.all (fun s => goodB s.data.toList) = true ∧ ∃ (B : Nat) (ys : List NatX), e = .returned (.tuple #[.slice (some ⟨B, 0, none⟩) l.length l.length, .bool true]) ∧ w.heap.size ≤ B ∧ RecAt w' B 40 natXL ys ∧ AllNats l ys ∧ Below w.heap.size w w') ∨
  (l.all (fun s => goodB s.data.toList) = false ∧ e = .returned (.tuple #[.slice none 0 0, .bool false]) ∧ Below w.heap.size w w')
theorem put_next (ys : List NatX) (n : Nat) (h : ys.length < n) (d : NatX) : (ys ++ List.replicate (n - ys.length) zN).set ys.length d = (ys ++ [d]) ++ List.replicate (n - (ys ++ [d]).length) zN := by
  rw [List.set_append_right _ _ (Nat.le_refl _), Nat.sub_self, show n - ys.length = (n - (ys ++ [d]).length) + 1 by simp; omega, List.replicate_succ, List.set_cons_zero, List.append_assoc]; rfl

set_option maxHeartbeats 4000000 in
set_option maxRecDepth 100000 in
theorem readAll_any (l : List ByteArray) (b cap : Nat) (w : World) (hl1 : 1 ≤ l.length) (hl2 : l.length ≤ 20) (hs : ∀ i, i < l.length → (l.getD i default).size ≤ maxLen) (hR : RecAt w b 9 stringL l) :
    Calls Tryd.prog 37 #[.slice (some ⟨b, 0, none⟩) l.length cap] w fun e w' => RaAns l w e w' := by
  have hz := zero_nat.1
  obtain ⟨n, hn⟩ : ∃ n, n = l.length := ⟨_, rfl⟩
  have hmk := make_nats n (by omega)
  have hblt := RecAt.lt hR
  have HR := hide hR
  have HN := hide hn
  have HSZ := hide hs
  have hn1 : 1 ≤ n := by omega
  have hn20 : (n : Int) ≤ 20 := by omega
  rw [← hn]
  have HROW := hide (show RecAt (w.alloc (.cells ((List.replicate n zN).flatMap natXL).toArray 40)) w.heap.size 40 natXL (List.replicate n zN) from RowAt.new w 40 _)
  have hB : Below w.heap.size w (w.alloc (.cells ((List.replicate n zN).flatMap natXL).toArray 40)) := (Below.refl _ _).alloc (Nat.le_refl _) _
  clear hR hn hs hl1 hl2
  go_enter Tryd.func37, Tryd.ntmps37
  go_wp2_with fail
  clear hmk
  go_loopg [14] n (fun g i wr => ∃ (j : Nat) (ys : List NatX), g = n - j ∧ j ≤ n ∧ i = .int .i64 (j : Int) ∧ Hid (ys.length = j ∧ ∀ i, i < j → goodB (l.getD i default).data.toList = true ∧ ∃ k : Nat, (ys.getD i default).1 = (k : Int) ∧ Rep (dval (l.getD i default).data.toList) k (ys.getD i default).2.1) ∧ Hid (RecAt wr w.heap.size 40 natXL (ys ++ List.replicate (n - ys.length) zN)) ∧ Hid (Below w.heap.size w wr))
  case atStart => exact ⟨0, [], rfl, by omega, rfl, ⟨rfl, fun i hi => by omega⟩, HROW.out, hB⟩
  case round =>
    obtain ⟨j, ys, hg, hj, rfl, HY, HRW, HBL⟩ := hrel
    have hws := HBL.out.size
    have hrl := RecAt.lt HRW.out
    by_cases hlt : (j : Int) < (n : Int)
    · have hjl : j < l.length := by have := HN.out; omega
      obtain ⟨s, hs⟩ : ∃ s, s = l.getD j default := ⟨_, rfl⟩
      have hcell : wr.cell? ⟨b, j, none⟩ = some (.string s) := by
        have h1 := (HR.out.below HBL.out hblt).cell (c := 1) (fun _ => rfl) j 0 hjl (by decide)
        rw [Nat.mul_one, Nat.add_zero] at h1
        rw [h1, hs]; rfl
      have hsz : s.size ≤ maxLen := by rw [hs]; exact HSZ.out j hjl
      have HS := hide hs
      clear hs
      go_wp2_with fail
      refine (readNat_any s _ hsz).mono ?_
      rintro e w1 ⟨k, p, oa, rfl, hRa, hW1⟩
      have hp := hRa.len
      have hs1 := hW1.size
      have A := NatAt.new w1 0 zP
      have hok : oa = goodB s.data.toList := hRa.ok
      have hB1 : Below w.heap.size w w1 := HBL.out.trans (hW1.mono hws)
      have HRW1 : Hid (RecAt (w1.alloc (.cells (natC 0 zP) 40)) w.heap.size 40 natXL (ys ++ List.replicate (n - ys.length) zN)) := RowAt.old (HRW.out.below hW1 hrl) _
      cases hgd : oa with
      | true =>
        have hgood : goodB s.data.toList = true := by rw [← hok]; exact hgd
        have HG := hide (And.intro hgood (hRa.rep hgood))
        clear hgd hok hRa hgood hW1
        have hlen : (ys ++ List.replicate (n - ys.length) zN).length = n := by simp; have := HY.out.1; omega
        have HLN := hide hlen
        clear hlen
        go_wp2_with (first | (refine store_nat rfl _ _ rfl rfl w1.heap.size k p rfl rfl 0 zP A zP_len hp ?_; intro w2 hN2 hg2 hs2) | (refine load_nat rfl _ rfl w1.heap.size rfl k p hN2 hp ?_) | (refine store_rec rfl 40 _ _ rfl rfl natXL 205 natXL_len natXL_one zero_nat.2 w.heap.size j ((k : Int), (⟨p, hp⟩ : PartsX)) rfl rfl _ (RowAt.grown HRW1.out hg2 (by simp; omega)) (by rw [HLN.out]; omega) ?_; intro w3 hD3 hg3 hs3))
        go_roundg (n - (j + 1))
        case measure => omega
        case rel =>
          have hyl := HY.out.1
          have hD4 : RecAt w3 w.heap.size 40 natXL ((ys ++ [((k : Int), (⟨p, hp⟩ : PartsX))]) ++ List.replicate (n - (ys ++ [((k : Int), (⟨p, hp⟩ : PartsX))]).length) zN) := by
            rw [← put_next ys n (by omega), hyl]
            rw [hyl] at hD3
            exact hD3
          refine ⟨j + 1, ys ++ [((k : Int), (⟨p, hp⟩ : PartsX))], rfl, by omega, by go_num, ⟨by simp [hyl], fun i hi => ?_⟩, hD4, ?_⟩
          · by_cases e : i = j
            · subst e
              rw [← HS.out]
              refine ⟨HG.out.1, k, ?_, ?_⟩
              · simp [List.getD, ← hyl]
              · have e2 : (ys ++ [((k : Int), (⟨p, hp⟩ : PartsX))]).getD i default = ((k : Int), (⟨p, hp⟩ : PartsX)) := by simp [List.getD, ← hyl]
                rw [e2]; exact HG.out.2
            · have := HY.out.2 i (by omega)
              have e2 : (ys ++ [((k : Int), (⟨p, hp⟩ : PartsX))]).getD i default = ys.getD i default := by
                simp only [List.getD]; rw [List.getElem?_append_left (by omega)]
              rw [e2]; exact this
          · exact ((hB1.alloc hB1.size _).grown hg2 (by simp; have := hB1.size; omega) (by intro k hk; cases hk; have := hB1.size; omega)).grown hg3 (by rw [hs2]; simp; have := hB1.size; omega) (by intro k hk; cases hk; omega)
      | false =>
        have HA : Hid (l.all (fun s => goodB s.data.toList) = false) := by
          unfold Hid
          rw [List.all_eq_false]
          refine ⟨s, ?_, by rw [← hok, hgd]; decide⟩
          rw [HS.out]
          simp [List.getD, hjl]
        clear hgd hok hRa
        go_wp2_with (refine store_nat rfl _ _ rfl rfl w1.heap.size k p rfl rfl 0 zP A zP_len hp ?_; intro w2 hN2 hg2 hs2)
        go_ret2
        exact .inr ⟨HA.out, rfl, (hB1.alloc hB1.size _).grown hg2 (by simp; have := hB1.size; omega) (by intro k hk; cases hk; have := hB1.size; omega)⟩
    · have hjn : j = n := by omega
      have HE : Hid (l.all (fun s => goodB s.data.toList) = true ∧ RecAt wr w.heap.size 40 natXL ys ∧ AllNats l ys) := by
        have hnl := HN.out
        refine ⟨?_, ?_, by have := HY.out.1; omega, fun i hi => (HY.out.2 i (by omega)).2⟩
        · rw [List.all_eq_true]
          intro s hs
          obtain ⟨i, hi, rfl⟩ := List.getElem_of_mem hs
          have := (HY.out.2 i (by omega)).1
          simpa [List.getD, hi] using this
        · have := HRW.out
          rw [HY.out.1, hjn, Nat.sub_self, List.replicate_zero, List.append_nil] at this
          exact this
      clear hjn
      go_wp2
      go_ret2
      exact .inl ⟨HE.out.1, w.heap.size, ys, by rw [← HN.out]; rfl, Nat.le_refl _, HE.out.2.1, HE.out.2.2, HBL.out⟩
end Go.Proofs.YthbnacikomimfaaDoor

/-
  What modulo and powerModulo of impl's nats and impl.PowModNat answer.
-/
namespace Go.Proofs.YthbnacikomimfaaDoor
open Go.RowKit
set_option linter.unusedVariables false

set_option maxHeartbeats 1000000 in
set_option maxRecDepth 100000 in
theorem modulo_any {n m k j : Nat} {p q : List Int} (w : World) (hP : Rep n k p) (hQ : Rep m j q) (hm : m ≠ 0) (hk : k ≤ 202) :
    Calls Tryd.prog 92 #[.agg (natC k p), .agg (natC j q)] w fun e w' => ∃ (i : Nat) (r : List Int), e = .returned (.agg (natC i r)) ∧ Rep (n % m) i r ∧ Below w.heap.size w w' := by
  have hz := zero_nat.1
  have hp := hP.len
  have hq := hQ.len
  have hj0 : 0 < j := Nat.pos_of_ne_zero (fun h => hm (hQ.zero_iff.1 h))
  have A := ((NatAt.new w k p).old (.cells (natC j q) 40)).old (.cells (natC 0 zP) 40)
  have B := (NatAt.new (w.alloc (.cells (natC k p) 40)) j q).old (.cells (natC 0 zP) 40)
  have C := NatAt.new ((w.alloc (.cells (natC k p) 40)).alloc (.cells (natC j q) 40)) 0 zP
  have hB : Below w.heap.size w (((w.alloc (.cells (natC k p) 40)).alloc (.cells (natC j q) 40)).alloc (.cells (natC 0 zP) 40)) := (((Below.refl _ _).alloc (Nat.le_refl _) _).alloc (by first | (simp; done) | (simp; omega)) _).alloc (by first | (simp; done) | (simp; omega)) _
  simp only [World.size_alloc] at B C
  have HP := hide (And.intro hP hQ)
  clear hP hQ
  go_enter Tryd.func92, Tryd.ntmps92
  go_wp2_with (first | (refine load_nat rfl (.tmp 2) rfl w.heap.size rfl k p A hp ?_) | (refine load_nat rfl (.tmp 3) rfl (w.heap.size + 1) rfl j q B hq ?_))
  refine (divide_any _ HP.out.1 HP.out.2 hj0 hk).mono ?_
  rintro e w1 ⟨i, i2, r, s, rfl, hR0, hR, hW1⟩
  have hsl := hR.len
  have HR := hide hR
  have hs1 : w.heap.size + 1 + 1 + 1 ≤ w1.heap.size := by have := hW1.size; simpa using this
  have C1 : NatAt w1 (w.heap.size + 1 + 1) 0 zP := C.below hW1 (by simp)
  have hB1 : Below w.heap.size w w1 := hB.trans (hW1.mono (by simp; omega))
  have hrl := hR0.len
  have D1 := (NatAt.new w1 0 zP).old (.cells (natC 0 zP) 40)
  have E1 := NatAt.new (w1.alloc (.cells (natC 0 zP) 40)) 0 zP
  simp only [World.size_alloc] at E1
  clear A B C hB hW1 hR hR0
  go_wp2_with (first | (refine store_nat rfl (.tmp 5) _ rfl rfl w1.heap.size i r rfl rfl 0 zP D1 zP_len hrl ?_; intro w2 hN2 hg2 hs2) | (refine store_nat rfl (.tmp 6) _ rfl rfl (w1.heap.size + 1) i2 s rfl rfl 0 zP (E1.grown hg2 (by simp)) zP_len hsl ?_; intro w3 hN3 hg3 hs3) | (refine load_nat rfl (.tmp 6) rfl (w1.heap.size + 1) rfl i2 s hN3 hsl ?_) | (refine store_nat rfl (.tmp 4) _ rfl rfl (w.heap.size + 1 + 1) i2 s rfl rfl 0 zP ((((C1.old _).old _).grown hg2 (by simp; omega)).grown hg3 (by simp; omega)) zP_len hsl ?_; intro w4 hN4 hg4 hs4))
  have hB3 : Below w.heap.size w w3 := (((hB1.alloc hB1.size _).alloc (by simp; have := hB1.size; omega) _).grown hg2 (by simp; have := hB1.size; omega) (by intro k hk; cases hk; have := hB1.size; omega)).grown hg3 (by rw [hs2]; simp; have := hB1.size; omega) (by intro k hk; cases hk; have := hB1.size; omega)
  refine bodyPost_ret (v := .agg (natC i2 s)) (res_nat Tryd.results92 _ _ (w.heap.size + 1 + 1) _ _ rfl hN4 hsl) rfl ⟨i2, s, rfl, HR.out, hB3.grown hg4 (by have := hB3.size; omega) (by intro k hk; cases hk; omega)⟩

theorem ten_lt_ten (h T : Nat) (hT : h < T) : 10 ^ h < 10 ^ T := Nat.pow_lt_pow_right (by decide) hT
theorem iter_grown (w : World) (k : Nat) (s : ByteArray) (pos : Nat) : w.grownBy (w.iterAt k s pos) (some k) := ⟨rfl, rfl, rfl, by rw [Lib.iterAt_size]; exact Nat.le_refl _, fun j _ hne => Lib.iterAt_other w k j s pos (fun e => hne (by rw [e]))⟩

theorem ys_get {B : Nat} {w : World} {ys : List NatX} (h : RecAt w B 40 natXL ys) (i : Nat) (hi : i < ys.length) (k : Nat) (p : List Int) (hp : p.length = 204) (e : ys.getD i default = ((k : Int), (⟨p, hp⟩ : PartsX))) : w.rangeAt B (i * 205) ((((k : Int) :: p).map (Value.int .i64))) := by
  have := h.range natXL_len i hi
  rw [e] at this
  exact this
theorem run_natX {o : Oper} {a : Act} {w : World} (x : Operand) (ho : o.op = .load 40 x) (B i : Nat) (hx : a.eval x = .pointer (some ⟨B, i * 205, none⟩)) (ys : List NatX) (hD : RecAt w B 40 natXL ys) (hi : i < ys.length) (k : Nat) (p : List Int) (e : ∃ hp, ys.getD i default = ((k : Int), (⟨p, hp⟩ : PartsX))) :
    (execOp a.eval o).run Tryd.prog w = .ok (.value (.agg (natC k p))) w := by
  obtain ⟨hp, e⟩ := e
  have hr := ys_get hD i hi k p hp e
  have hl : (loadCells ⟨B, i * 205, none⟩ 205).run Tryd.prog w = .ok (natC k p) w := by
    have := run_loadCells_list (P := Tryd.prog) w ⟨B, i * 205, none⟩ (((k : Int) :: p).map (Value.int .i64)) (fun j v hv => by rw [Addr.add_mid]; exact hr j v hv)
    rw [show (((k : Int) :: p).map (Value.int .i64)).length = 205 by simp [hp]] at this
    exact this
  have hv : (loadVar 40 ⟨B, i * 205, none⟩).run Tryd.prog w = .ok (.agg (natC k p)) w := by
    have hs := zero_nat.2
    cases hq : Tryd.prog.info? 40 with
    | none => simp [hq] at hs
    | some ti =>
      have h5 : ti.size = 205 := by simpa [hq] using hs
      have hagg : (isAgg 40).run Tryd.prog w = .ok true w := by
        unfold isAgg
        rw [Sem.run_bind, run_underlying Tryd.underlying40 w]
        rfl
      simp only [loadVar, Sem.run_bind, hagg, Result.andThen_ok, if_true, sizeOf, typeInfo, Sem.run_pure]
      simp [hq, h5, hl]
  unfold execOp
  simp only [ho, hx, Instr.loadAt, Instr.sureAddr, Sem.run_bind, Sem.run_pure, Result.andThen_ok, hv]

theorem nats3 {a n m : ByteArray} {ys : List NatX} (h : AllNats [a, n, m] ys) : ys.length = 3 ∧ ∃ (k0 k1 k2 : Nat) (p0 p1 p2 : List Int), (∃ hp, ys.getD 0 default = ((k0 : Int), (⟨p0, hp⟩ : PartsX))) ∧ (∃ hp, ys.getD 1 default = ((k1 : Int), (⟨p1, hp⟩ : PartsX))) ∧ (∃ hp, ys.getD 2 default = ((k2 : Int), (⟨p2, hp⟩ : PartsX))) ∧ Rep (dval a.data.toList) k0 p0 ∧ Rep (dval n.data.toList) k1 p1 ∧ Rep (dval m.data.toList) k2 p2 := by
  obtain ⟨h0, h1⟩ := h
  obtain ⟨k0, e0, r0⟩ := h1 0 (by simp)
  obtain ⟨k1, e1, r1⟩ := h1 1 (by simp)
  obtain ⟨k2, e2, r2⟩ := h1 2 (by simp)
  exact ⟨h0, k0, k1, k2, _, _, _, ⟨(ys.getD 0 default).2.2, Prod.ext e0 rfl⟩, ⟨(ys.getD 1 default).2.2, Prod.ext e1 rfl⟩, ⟨(ys.getD 2 default).2.2, Prod.ext e2 rfl⟩, r0, r1, r2⟩

end Go.Proofs.YthbnacikomimfaaDoor

/-
  What times and modulo of impl's whole numbers answer.
-/
namespace Go.Proofs.YthbnacikomimfaaDoor
open Go.RowKit
set_option linter.unusedVariables false

set_option maxHeartbeats 2000000 in
set_option maxRecDepth 100000 in
theorem wtimes_any {k j n m : Nat} {p q : List Int} (g g' : Bool) (w : World) (hP : Rep n k p) (hQ : Rep m j q) (hk : k ≤ 100) (hj : j ≤ 100) :
    Calls Tryd.prog 67 #[.agg (wholeC g k p), .agg (wholeC g' j q)] w fun e w' => ∃ (i : Nat) (r : List Int), e = .returned (.agg (wholeC ((g != g') && decide (0 < i)) i r)) ∧ Rep (n * m) i r ∧ Below w.heap.size w w' := by
  have hz := zero_whole.1
  have hp := hP.len
  have hq := hQ.len
  have A := (WholeAt.new w g k p |> fun h => RowAt.old h (.cells (wholeC g' j q) 69) |> fun h => RowAt.old h (.cells (wholeC false 0 zP) 69))
  have B := (WholeAt.new (w.alloc (.cells (wholeC g k p) 69)) g' j q |> fun h => RowAt.old h (.cells (wholeC false 0 zP) 69))
  have C := WholeAt.new ((w.alloc (.cells (wholeC g k p) 69)).alloc (.cells (wholeC g' j q) 69)) false 0 zP
  have hB : Below w.heap.size w (((w.alloc (.cells (wholeC g k p) 69)).alloc (.cells (wholeC g' j q) 69)).alloc (.cells (wholeC false 0 zP) 69)) := (((Below.refl _ _).alloc (Nat.le_refl _) _).alloc (by first | (simp; done) | (simp; omega)) _).alloc (by first | (simp; done) | (simp; omega)) _
  have hws : (((w.alloc (.cells (wholeC g k p) 69)).alloc (.cells (wholeC g' j q) 69)).alloc (.cells (wholeC false 0 zP) 69)).heap.size = w.heap.size + 1 + 1 + 1 := by simp
  simp only [World.size_alloc] at B C
  have HP := hide (And.intro hP hQ)
  clear hP hQ
  go_enter Tryd.func67, Tryd.ntmps67
  generalize hw0 : ((w.alloc (.cells (wholeC g k p) 69)).alloc (.cells (wholeC g' j q) 69)).alloc (.cells (wholeC false 0 zP) 69) = w0 at A B C hB hws
  go_wp2_with fail
  clear hw0
  refine held_begin (fun w' => WholeAt w' w.heap.size g k p ∧ WholeAt w' (w.heap.size + 1) g' j q) (by kernel_rfl) ?_
  have hS : WholeAt w0.drew w.heap.size g k p ∧ WholeAt w0.drew (w.heap.size + 1) g' j q := ⟨A, B⟩
  refine held_val 0 (some 5) rfl rfl (by kernel_rfl) (by kernel_rfl) (by kernel_rfl) noPanic_put rfl (.pointer (some ⟨w.heap.size, 0, none⟩)) (fun _ => by go_simp) hS ?_
  simp only [Act.put, List.setIfInBounds_toArray, List.set_cons_zero, List.set_cons_succ]
  refine held_valS 1 (some 6) rfl rfl (by kernel_rfl) (by kernel_rfl) (by kernel_rfl) noPanic_put rfl (.bool g) (fun _ h => BL.run_cell1 (.tmp 5) 4 rfl ⟨w.heap.size, 0, none⟩ rfl _ Tryd.underlying4 rfl h.1.neg) hS ?_
  simp only [Act.put, List.setIfInBounds_toArray, List.set_cons_zero, List.set_cons_succ]
  refine held_val 2 (some 7) rfl rfl (by kernel_rfl) (by kernel_rfl) (by kernel_rfl) noPanic_put rfl (.pointer (some ⟨w.heap.size + 1, 0, none⟩)) (fun _ => by go_simp) hS ?_
  simp only [Act.put, List.setIfInBounds_toArray, List.set_cons_zero, List.set_cons_succ]
  refine held_valS 3 (some 8) rfl rfl (by kernel_rfl) (by kernel_rfl) (by kernel_rfl) noPanic_put rfl (.bool g') (fun _ h => BL.run_cell1 (.tmp 7) 4 rfl ⟨w.heap.size + 1, 0, none⟩ rfl _ Tryd.underlying4 rfl h.2.neg) hS ?_
  simp only [Act.put, List.setIfInBounds_toArray, List.set_cons_zero, List.set_cons_succ]
  refine held_val 4 (some 9) rfl rfl (by kernel_rfl) (by kernel_rfl) (by kernel_rfl) noPanic_put rfl (.bool (g != g')) (fun _ => by cases g <;> cases g' <;> go_simp) hS ?_
  simp only [Act.put, List.setIfInBounds_toArray, List.set_cons_zero, List.set_cons_succ]
  refine held_val 5 (some 10) rfl rfl (by kernel_rfl) (by kernel_rfl) (by kernel_rfl) noPanic_put rfl (.pointer (some ⟨w.heap.size, 1, none⟩)) (fun _ => by go_simp) hS ?_
  simp only [Act.put, List.setIfInBounds_toArray, List.set_cons_zero, List.set_cons_succ]
  refine held_valS 6 (some 11) rfl rfl (by kernel_rfl) (by kernel_rfl) (by kernel_rfl) noPanic_put rfl (.agg (natC k p)) (fun _ h => run_mid_nat _ rfl w.heap.size 1 rfl k p h.1.size hp) hS ?_
  simp only [Act.put, List.setIfInBounds_toArray, List.set_cons_zero, List.set_cons_succ]
  refine held_val 7 (some 12) rfl rfl (by kernel_rfl) (by kernel_rfl) (by kernel_rfl) noPanic_put rfl (.pointer (some ⟨w.heap.size + 1, 1, none⟩)) (fun _ => by go_simp) hS ?_
  simp only [Act.put, List.setIfInBounds_toArray, List.set_cons_zero, List.set_cons_succ]
  refine held_valS 8 (some 13) rfl rfl (by kernel_rfl) (by kernel_rfl) (by kernel_rfl) noPanic_put rfl (.agg (natC j q)) (fun _ h => run_mid_nat _ rfl (w.heap.size + 1) 1 rfl j q h.2.size hq) hS ?_
  simp only [Act.put, List.setIfInBounds_toArray, List.set_cons_zero, List.set_cons_succ]
  refine held_call 9 (some 14) (by kernel_rfl) rfl rfl rfl 23 #[.agg (natC k p), .agg (natC j q)] (by go_simp) _ (times_any w0.drew HP.out.1 HP.out.2 hk hj) ?_
  rintro e w1 ⟨i, r, rfl, hR, hW1⟩
  have hs1 : w0.heap.size ≤ w1.heap.size := hW1.size
  have hS1 : WholeAt w1 w.heap.size g k p ∧ WholeAt w1 (w.heap.size + 1) g' j q := ⟨RowAt.below hS.1 hW1 (by show _ < w0.heap.size; omega), RowAt.below hS.2 hW1 (by show _ < w0.heap.size; omega)⟩
  have hrl := hR.len
  refine ⟨_, rfl, hS1, ?_⟩
  simp only [Act.put, List.setIfInBounds_toArray, List.set_cons_zero, List.set_cons_succ]
  refine held_call 10 (some 15) (by kernel_rfl) rfl rfl rfl 91 #[.bool (g != g'), .agg (natC i r)] (by go_simp) _ (wholeOf_any (g != g') i r w1 hrl) ?_
  rintro e w2 ⟨rfl, hW2⟩
  have hs2 := hW2.size
  have hS2 : WholeAt w2 w.heap.size g k p ∧ WholeAt w2 (w.heap.size + 1) g' j q := ⟨RowAt.below hS1.1 hW2 (by omega), RowAt.below hS1.2 hW2 (by omega)⟩
  refine ⟨_, rfl, hS2, ?_⟩
  simp only [Act.put, List.setIfInBounds_toArray, List.set_cons_zero, List.set_cons_succ]
  have C2 : WholeAt w2 (w.heap.size + 1 + 1) false 0 zP := RowAt.below (RowAt.below (w := w0.drew) C hW1 (by show _ < w0.heap.size; omega)) hW2 (by omega)
  have HR := hide hR
  refine held_store_whole 11 (by kernel_rfl) rfl rfl _ _ rfl rfl (w.heap.size + 1 + 1) ((g != g') && decide (0 < i)) i r rfl rfl false 0 zP C2 zP_len hrl ?_
  intro w3 hN3 hg3 hs3
  refine ⟨⟨RowAt.grown hS2.1 hg3 (by simp; omega), RowAt.grown hS2.2 hg3 (by simp)⟩, ?_⟩
  refine wpAnyH_done (by kernel_rfl) ?_ _
  refine NoPanic.normal ?_
  have hB2 : Below w.heap.size w w2 := (hB.drew.trans (hW1.mono hB.size)).trans (hW2.mono (by have := hB.size; omega))
  go_wp2
  refine bodyPost_ret (v := .agg (wholeC ((g != g') && decide (0 < i)) i r)) (res_whole Tryd.results67 _ _ (w.heap.size + 1 + 1) _ _ _ rfl hN3 hrl) rfl ⟨i, r, rfl, HR.out, hB2.grown hg3 (by have := hB2.size; omega) (by intro k hk; cases hk; omega)⟩

set_option maxHeartbeats 2000000 in
set_option maxRecDepth 100000 in
theorem wmodulo_any {k j n m : Nat} {p q : List Int} (g : Bool) (w : World) (hP : Rep n k p) (hQ : Rep m j q) (hm : m ≠ 0) (hk : k ≤ 202) (hj : j ≤ 202) :
    Calls Tryd.prog 68 #[.agg (wholeC g k p), .agg (natC j q)] w fun e w' => ∃ (i : Nat) (r : List Int), e = .returned (.agg (natC i r)) ∧ Rep (modZ g n m) i r ∧ Below w.heap.size w w' := by
  have hz := zero_nat.1
  have hp := hP.len
  have hq := hQ.len
  have A := (WholeAt.new w g k p |> fun h => RowAt.old h (.cells (natC j q) 40) |> fun h => RowAt.old h (.cells (natC 0 zP) 40))
  have B := (NatAt.new (w.alloc (.cells (wholeC g k p) 69)) j q).old (.cells (natC 0 zP) 40)
  have C := NatAt.new ((w.alloc (.cells (wholeC g k p) 69)).alloc (.cells (natC j q) 40)) 0 zP
  have hB : Below w.heap.size w (((w.alloc (.cells (wholeC g k p) 69)).alloc (.cells (natC j q) 40)).alloc (.cells (natC 0 zP) 40)) := (((Below.refl _ _).alloc (Nat.le_refl _) _).alloc (by first | (simp; done) | (simp; omega)) _).alloc (by first | (simp; done) | (simp; omega)) _
  have hws : (((w.alloc (.cells (wholeC g k p) 69)).alloc (.cells (natC j q) 40)).alloc (.cells (natC 0 zP) 40)).heap.size = w.heap.size + 1 + 1 + 1 := by simp
  simp only [World.size_alloc] at B C
  have HP := hide (And.intro hP (And.intro hQ hm))
  clear hP hQ hm
  go_enter Tryd.func68, Tryd.ntmps68
  go_wp2_with (first | (refine load_mid_nat rfl (.tmp 6) rfl w.heap.size 1 rfl k p (WholeAt.size A) hp ?_) | (refine load_nat rfl (.tmp 3) rfl (w.heap.size + 1) rfl j q B hq ?_))
  refine (modulo_any _ HP.out.1 HP.out.2.1 HP.out.2.2 hk).mono ?_
  rintro e w1 ⟨i, r, rfl, hR, hW1⟩
  have hrl := hR.len
  have hs1 : w.heap.size + 1 + 1 + 1 ≤ w1.heap.size := by have := hW1.size; simpa using this
  have A1 : WholeAt w1 w.heap.size g k p := RowAt.below A hW1 (by simp; omega)
  have B1 : NatAt w1 (w.heap.size + 1) j q := B.below hW1 (by simp)
  have C1 : NatAt w1 (w.heap.size + 1 + 1) 0 zP := C.below hW1 (by simp)
  have hB1 : Below w.heap.size w w1 := hB.trans (hW1.mono (by simp; omega))
  have D1 := NatAt.new w1 0 zP
  have hi0 := hR.zero_iff
  have HR := hide hR
  clear A B C hB hW1 hR hws
  cases g with
  | false =>
    have HM : Hid (Rep (modZ false n m) i r) := by
      have : modZ false n m = n % m := by unfold modZ; simp
      unfold Hid; rw [this]; exact HR.out
    go_wp2_with (first | (refine store_nat rfl (.tmp 5) _ rfl rfl w1.heap.size i r rfl rfl 0 zP D1 zP_len hrl ?_; intro w2 hN2 hg2 hs2; have hneg : w2.cell? ⟨w.heap.size, 0, none⟩ = some (.bool false) := WholeAt.neg (RowAt.grown (RowAt.old A1 _) hg2 (by simp; omega)); have hused : w2.cell? ⟨w1.heap.size, 0, none⟩ = some (.int .i64 (i : Int)) := hN2.c0) | (refine load_nat rfl (.tmp 5) rfl w1.heap.size rfl i r hN2 hrl ?_) | (refine store_nat rfl (.tmp 4) _ rfl rfl (w.heap.size + 1 + 1) i r rfl rfl 0 zP ((C1.old _).grown hg2 (by simp; omega)) zP_len hrl ?_; intro w4 hN4 hg4 hs4))
    have hB2 : Below w.heap.size w w2 := (hB1.alloc hB1.size _).grown hg2 (by simp; have := hB1.size; omega) (by intro k hk; cases hk; have := hB1.size; omega)
    refine bodyPost_ret (v := .agg (natC i r)) (res_nat Tryd.results68 _ _ (w.heap.size + 1 + 1) _ _ rfl hN4 hrl) rfl ⟨i, r, rfl, HM.out, hB2.grown hg4 (by have := hB2.size; omega) (by intro k hk; cases hk; omega)⟩
  | true =>
    by_cases hi : (0 : Int) < (i : Int)
    · have hne : n % m ≠ 0 := fun h => by have := hi0.2 h; omega
      have HM0 : Hid (modZ true n m = m - n % m) := by unfold Hid modZ; rw [if_pos ⟨rfl, hne⟩]
      have HLT : Hid (n % m < m) := Nat.mod_lt _ (Nat.pos_of_ne_zero HP.out.2.2)
      have hij : i ≤ j := HR.out.cnt_le HP.out.2.1 (Nat.le_of_lt HLT.out)
      clear hne hi0
      go_wp2_with (first | (refine store_nat rfl (.tmp 5) _ rfl rfl w1.heap.size i r rfl rfl 0 zP D1 zP_len hrl ?_; intro w2 hN2 hg2 hs2; have hneg : w2.cell? ⟨w.heap.size, 0, none⟩ = some (.bool true) := WholeAt.neg (RowAt.grown (RowAt.old A1 _) hg2 (by simp; omega)); have hused : w2.cell? ⟨w1.heap.size, 0, none⟩ = some (.int .i64 (i : Int)) := hN2.c0) | (refine load_nat rfl (.tmp 3) rfl (w.heap.size + 1) rfl j q ((B1.old _).grown hg2 (by simp; omega)) hq ?_) | (refine load_nat rfl (.tmp 5) rfl w1.heap.size rfl i r hN2 hrl ?_))
      have hB2 : Below w.heap.size w w2 := (hB1.alloc hB1.size _).grown hg2 (by simp; have := hB1.size; omega) (by intro k hk; cases hk; have := hB1.size; omega)
      have hs2' : w2.heap.size = w1.heap.size + 1 := by rw [hs2]; simp
      have C2 : NatAt w2 (w.heap.size + 1 + 1) 0 zP := (C1.old _).grown hg2 (by simp; omega)
      refine (minus_any 1 0 w2 HP.out.2.1 HR.out hj (by omega) (by omega) (by omega)).mono ?_
      have HS2 := hide hs2'
      clear hneg hused hs2' hs2 hg2
      rintro e w3 (⟨i3, r3, x3, rfl, hR3, hx3, hW3⟩ | ⟨rfl, hlt, hW3⟩)
      · have hr3 := hR3.len
        have hwl : w2.heap.size = w1.heap.size + 1 := HS2.out
        have HM : Hid (Rep (modZ true n m) i3 r3) := by
          have e3 : x3 = m - n % m := by
            have := HLT.out
            simp only [Int.pow_zero, Int.one_mul] at hx3
            generalize n % m = z at *
            omega
          unfold Hid; rw [HM0.out, ← e3]; exact hR3
        have N3 : NatAt w3 w1.heap.size i r := hN2.below hW3 (by omega)
        have C3 : NatAt w3 (w.heap.size + 1 + 1) 0 zP := C2.below hW3 (by omega)
        have hB3 : Below w.heap.size w w3 := hB2.trans (hW3.mono hB2.size)
        clear hx3 hR3 hW3 hwl hN2 C2
        go_wp2_with (first | (refine store_nat rfl (.tmp 5) _ rfl rfl w1.heap.size i3 r3 rfl rfl _ r N3 hrl hr3 ?_; intro w5 hN5 hg5 hs5) | (refine load_nat rfl (.tmp 5) rfl w1.heap.size rfl i3 r3 hN5 hr3 ?_) | (refine store_nat rfl (.tmp 4) _ rfl rfl (w.heap.size + 1 + 1) i3 r3 rfl rfl 0 zP (C3.grown hg5 (by simp; omega)) zP_len hr3 ?_; intro w4 hN4 hg4 hs4))
        have hB5 : Below w.heap.size w w5 := hB3.grown hg5 hB3.size (by intro k hk; cases hk; omega)
        refine bodyPost_ret (v := .agg (natC i3 r3)) (res_nat Tryd.results68 _ _ (w.heap.size + 1 + 1) _ _ rfl hN4 hr3) rfl ⟨i3, r3, rfl, HM.out, hB5.grown hg4 hB5.size (by intro k hk; cases hk; omega)⟩
      · exfalso
        have := HLT.out
        simp only [Int.pow_zero, Int.one_mul] at hlt
        generalize n % m = z at *
        omega
    · have hz0 : n % m = 0 := hi0.1 (by omega)
      have HM : Hid (Rep (modZ true n m) i r) := by
        have : modZ true n m = n % m := by unfold modZ; rw [if_neg (by simp [hz0])]
        unfold Hid; rw [this]; exact HR.out
      clear hz0 hi0
      go_wp2_with (first | (refine store_nat rfl (.tmp 5) _ rfl rfl w1.heap.size i r rfl rfl 0 zP D1 zP_len hrl ?_; intro w2 hN2 hg2 hs2; have hneg : w2.cell? ⟨w.heap.size, 0, none⟩ = some (.bool true) := WholeAt.neg (RowAt.grown (RowAt.old A1 _) hg2 (by simp; omega)); have hused : w2.cell? ⟨w1.heap.size, 0, none⟩ = some (.int .i64 (i : Int)) := hN2.c0) | (refine load_nat rfl (.tmp 5) rfl w1.heap.size rfl i r hN2 hrl ?_) | (refine store_nat rfl (.tmp 4) _ rfl rfl (w.heap.size + 1 + 1) i r rfl rfl 0 zP ((C1.old _).grown hg2 (by simp; omega)) zP_len hrl ?_; intro w4 hN4 hg4 hs4))
      have hB2 : Below w.heap.size w w2 := (hB1.alloc hB1.size _).grown hg2 (by simp; have := hB1.size; omega) (by intro k hk; cases hk; have := hB1.size; omega)
      refine bodyPost_ret (v := .agg (natC i r)) (res_nat Tryd.results68 _ _ (w.heap.size + 1 + 1) _ _ rfl hN4 hrl) rfl ⟨i, r, rfl, HM.out, hB2.grown hg4 (by have := hB2.size; omega) (by intro k hk; cases hk; omega)⟩
end Go.Proofs.YthbnacikomimfaaDoor

/-
  Drawn regions whose stores may come up early: what a later load reads holds till the store that turns it came up.
-/
namespace Go.Proofs.YthbnacikomimfaaDoor.BL
open Go.RowKit Go.Proofs.YthbnacikomimfaaDoor
set_option linter.unusedVariables false

section
variable {P : Program} {ops : Array Oper} {Q : Exit → Act → World → Prop} {md : Region.Mode} {ps : List (Nat × (World → Prop))} {S : World → Prop}

/-- S holds, and each of the others till its own store came up. -/
def LateAll (ps : List (Nat × (World → Prop))) (S : World → Prop) (L : Array Bool) (w : World) : Prop := S w ∧ ∀ p ∈ ps, L.getD p.1 false = true ∨ p.2 w

def wpAnyM (P : Program) (md : Region.Mode) (ops : Array Oper) (Q : Exit → Act → World → Prop) (ps : List (Nat × (World → Prop))) (S : World → Prop) : Nat → Array Bool → Act → World → Prop
  | 0, listed, a, w => Region.ready md ops listed = [] ∧ Q .normal a w
  | fuel + 1, listed, a, w =>
    (Region.ready md ops listed = [] → Q .normal a w) ∧
    ∀ i ∈ Region.ready md ops listed, wpOp P ops Q i (fun a' w' => LateAll ps S (listed.setIfInBounds i true) w' ∧ wpAnyM P md ops Q ps S fuel (listed.setIfInBounds i true) a' w') a w

theorem wpAny_of_many : ∀ (fuel : Nat) (listed : Array Bool) (a : Act) (w : World), wpAnyM P md ops Q ps S fuel listed a w → wpAny P md ops Q fuel listed a w
  | 0, _, _, _, h => h
  | fuel + 1, _, _, _, h => ⟨h.1, fun i hi => wpOp_mono (fun a' w' h' => wpAny_of_many fuel _ a' w' h'.2) (h.2 i hi)⟩

theorem LateAll.set {L : Array Bool} {w : World} {i : Nat} (h : LateAll ps S L w) : LateAll ps S (L.setIfInBounds i true) w := ⟨h.1, fun p hp => (h.2 p hp).imp (fun h => by
  by_cases e : i = p.1
  · subst e
    rcases Nat.lt_or_ge p.1 L.size with h' | h'
    · simp [h']
    · simp [Array.getElem?_eq_none h'] at h
  · rw [getD_set_ne false e]; exact h) id⟩
theorem LateAll.unset {L : Array Bool} {w : World} {i : Nat} (hni : ∀ p ∈ ps, p.1 ≠ i) (h : LateAll ps S (L.setIfInBounds i true) w) : LateAll ps S L w := ⟨h.1, fun p hp => (h.2 p hp).imp (fun h => by
  rw [getD_set_ne false (Ne.symm (hni p hp))] at h; exact h) id⟩

theorem wpAnyM_first {i : Nat} {oi : Oper} {v : Value} (hi : ops[i]? = some oi) (hsel : ∀ (j : Nat) (o : Oper) cs b, ops[j]? = some o → o.op ≠ .select cs b)
    (hQ : ∀ c a w, Q (.panic c) (a.put oi.dst v) w → Q (.panic c) a w) (W : List Nat) (hil : i ∉ W) (hni : ∀ p ∈ ps, p.1 ≠ i) (hwait : ∀ k ∈ W, ∀ ok, ops[k]? = some ok → ∃ e ∈ ok.after, Region.binds md e = true ∧ (e.on = i ∨ e.on ∈ W)) :
    ∀ (fuel : Nat) (listed : Array Bool) (a : Act) (w : World),
      (∀ j oj, ops[j]? = some oj → j ≠ i → listed.getD j true = false → (∀ e ∈ oj.after, Region.binds md e = true → e.on ≠ i) → oi.apart ops oj = true) →
      (∀ k ∈ W, listed.getD k false = false) → i ∈ Region.ready md ops listed → YieldsIf P ops (fun w => S w ∧ ∀ p ∈ ps, p.1 ∈ W → p.2 w) oi v a → LateAll ps S listed w →
      wpAnyM P md ops Q ps S fuel (listed.setIfInBounds i true) (a.put oi.dst v) w → wpAnyM P md ops Q ps S (fuel + 1) listed a w := by
  have key : ∀ (L : Array Bool) (w : World), (∀ k ∈ W, L.getD k false = false) → LateAll ps S L w → S w ∧ ∀ p ∈ ps, p.1 ∈ W → p.2 w := fun L w hW h => ⟨h.1, fun p hp hpW => (h.2 p hp).resolve_left (by rw [hW _ hpW]; simp)⟩
  intro fuel
  induction fuel with
  | zero =>
    intro listed a w _ hW hr hy hS H
    refine ⟨fun h => (by rw [h] at hr; cases hr), fun j hj => ?_⟩
    by_cases hji : j = i
    · subst hji; exact hy.wpOp hi (key _ _ hW hS) ⟨hS.set, H⟩
    · have := ready_mono hj hji
      rw [H.1] at this
      cases this
  | succ fuel ih =>
    intro listed a w hfree hlate hr hy hS H
    refine ⟨fun h => (by rw [h] at hr; cases hr), fun j hj => ?_⟩
    by_cases hji : j = i
    · subst hji; exact hy.wpOp hi (key _ _ hlate hS) ⟨hS.set, H⟩
    · have h1 := H.2 j (ready_mono hj hji)
      obtain ⟨hjun, oj, hoj, hall⟩ := mem_ready.1 hj
      have hnot : ∀ e ∈ oj.after, Region.binds md e = true → e.on ≠ i := fun e he hb heq => by
        have h1 := hall e he hb
        have h0 := (mem_ready.1 hr).1
        rw [heq] at h1
        rcases Nat.lt_or_ge i listed.size with h' | h'
        · simp [h'] at h0 h1; rw [h0] at h1; cases h1
        · simp [Array.getElem?_eq_none h'] at h1
      have hjl : j ∉ W := fun hj' => by
        obtain ⟨e, he, hb, heq⟩ := hwait j hj' oj hoj
        rcases heq with heq | heq
        · exact hnot e he hb heq
        · have := hall e he hb
          rw [hlate _ heq] at this
          cases this
      have h2 := wpOp_putIf hoj (hfree j oj hoj hji hjun hnot) (fun cs b => hsel i oi cs b hi) (fun cs b => hsel j oj cs b hoj) hQ hy h1
      have hfree' : ∀ k ok, ops[k]? = some ok → k ≠ i → (listed.setIfInBounds j true).getD k true = false →
          (∀ e ∈ ok.after, Region.binds md e = true → e.on ≠ i) → oi.apart ops ok = true := fun k ok hk hki hun hno => by
        refine hfree k ok hk hki ?_ hno
        by_cases hjk : j = k
        · subst hjk; exact hjun
        · rw [getD_set_ne true hjk] at hun; exact hun
      have hlate' : ∀ k ∈ W, (listed.setIfInBounds j true).getD k false = false := fun k hk => by
        rw [getD_set_ne false (fun e => hjl (by rw [e]; exact hk))]; exact hlate k hk
      refine wpOp_mono (fun a' w' h3 => ?_) h2
      have hS' : LateAll ps S (listed.setIfInBounds j true) w' := by
        have := h3.2.1
        rw [Array.setIfInBounds_comm _ _ (Ne.symm hji)] at this
        exact this.unset hni
      refine ⟨hS', ih (listed.setIfInBounds j true) a' w' hfree' hlate' (ready_mono hr (Ne.symm hji)) h3.1 hS' ?_⟩
      rw [Array.setIfInBounds_comm _ _ hji]
      exact h3.2.2

/-- All of W wait for number i. -/
def waitsM (md : Region.Mode) (ops : Array Oper) (W : List Nat) (listed : Array Bool) (i : Nat) : Bool :=
  !W.contains i && W.all fun k => !listed.getD k false && match ops[k]? with
    | some ok => ok.after.any fun e => Region.binds md e && (e.on == i || W.contains e.on)
    | none => true

/-- Number i may be taken first. -/
theorem many_val {o : Oper} {fuel : Nat} {listed : Array Bool} {a : Act} {w : World} (i : Nat) (d : Option Tmp) (hi : ops[i]? = some o) (hd : o.dst = d) (hs : Region.noSelect ops = true) (hf : Region.free md ops listed i = true) (hr : (Region.ready md ops listed).contains i = true)
    (W : List Nat) (hl : waitsM md ops W listed i = true) (hni : ∀ p ∈ ps, p.1 ≠ i) (hQ : ∀ c a d v w, Q (.panic c) (Act.put a d v) w → Q (.panic c) a w) (hw : Region.wanted o (yielded ops a.tmps) = true) (v : Value) (hv : ∀ w, (S w ∧ ∀ p ∈ ps, p.1 ∈ W → p.2 w) → (execOp a.eval o).run P w = .ok (.value v) w) (hS : LateAll ps S listed w)
    (h : wpAnyM P md ops Q ps S fuel (listed.setIfInBounds i true) (a.put d v) w) : wpAnyM P md ops Q ps S (fuel + 1) listed a w := by
  subst hd
  unfold waitsM at hl
  simp only [Bool.and_eq_true, Bool.not_eq_true', List.all_eq_true] at hl
  obtain ⟨hl1, hl2⟩ := hl
  refine wpAnyM_first hi (Region.noSelect_spec hs) (fun c a w => hQ c a _ _ w) W (fun h => by simp [h] at hl1) hni (fun k hk ok hok => ?_) fuel listed a w (Region.free_spec hi hf) (fun k hk => (hl2 k hk).1) (by simpa using hr) (.inl ⟨hw, hv⟩) hS h
  have h2 := (hl2 k hk).2
  rw [hok] at h2
  simp only [Array.any_eq_true', Bool.and_eq_true, Bool.or_eq_true, beq_iff_eq, List.contains_iff_mem] at h2
  exact h2

/-- The one operation that may come up. -/
theorem many_one {o : Oper} {fuel : Nat} {listed : Array Bool} {a : Act} {w : World} (i : Nat) (hr : Region.ready md ops listed = [i]) (hi : ops[i]? = some o) (hw : Region.wanted o (yielded ops a.tmps) = true)
    (h : ∀ K' : Act → World → Prop, Hid (∀ a w, LateAll ps S (listed.setIfInBounds i true) w → wpAnyM P md ops Q ps S fuel (listed.setIfInBounds i true) a w → K' a w) → Oper.wp P o a w K' Q) : wpAnyM P md ops Q ps S (fuel + 1) listed a w := by
  refine ⟨fun h0 => (by rw [hr] at h0; cases h0), fun j hj => ?_⟩
  rw [hr] at hj
  simp only [List.mem_singleton] at hj
  subst hj
  refine wpOp_step hi fun K hK => ?_
  rw [if_pos hw]
  exact h K (fun a w h1 h2 => hK a w ⟨h1, h2⟩)
/-- The one operation that may come up gives a value. -/
theorem many_ready {o : Oper} {fuel : Nat} {listed : Array Bool} {a : Act} {w : World} (i : Nat) (d : Option Tmp) (hr : Region.ready md ops listed = [i]) (hi : ops[i]? = some o) (hw : Region.wanted o (yielded ops a.tmps) = true) (hd : o.dst = d) (v : Value) (w' : World)
    (he : (execOp a.eval o).run P w = .ok (.value v) w') (hS : LateAll ps S (listed.setIfInBounds i true) w') (h : wpAnyM P md ops Q ps S fuel (listed.setIfInBounds i true) (a.put d v) w') : wpAnyM P md ops Q ps S (fuel + 1) listed a w := by
  subst hd
  refine many_one i hr hi hw fun K hK => ?_
  unfold Oper.wp
  rw [he]
  exact hK.out _ _ hS h
theorem many_done {listed : Array Bool} {a : Act} {w : World} (hr : Region.ready md ops listed = []) (h : Q .normal a w) :
    ∀ fuel, wpAnyM P md ops Q ps S fuel listed a w
  | 0 => ⟨hr, h⟩
  | _ + 1 => ⟨fun _ => h, by rw [hr]; simp⟩
end
end Go.Proofs.YthbnacikomimfaaDoor.BL
