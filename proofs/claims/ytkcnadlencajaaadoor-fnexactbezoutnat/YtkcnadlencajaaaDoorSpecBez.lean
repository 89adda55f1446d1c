/-
  What spec.laBezout and spec.BezoutNat answer.
-/
import Derived.Test.YtkcnadlencajaaaDoorBezMath
import Derived.Test.YtkcnadlencajaaaDoorSpecMulNum
import Derived.Test.YtkcnadlencajaaaDoorSpecRoot
namespace Go.Proofs.YtkcnadlencajaaaDoor
open Go.RowKit
set_option linter.unusedVariables false

theorem WT.size {s : ByteArray} {z : Int} (h : WT s z) : s.size ≤ 601 := by
  have hl : s.data.toList.length = s.size := by simp
  obtain ⟨hc, hv⟩ := dec_canon z.natAbs
  have h1 := (canon_len_le hc 600 (by omega)).2 (by rw [hv]; exact h.1)
  rw [← hl, h.2, List.length_append]
  split <;> simp <;> omega
theorem WT.of_tx {s : ByteArray} {n : Nat} (h : Tx s n) (hn : n < 10 ^ 600) : WT s (n : Int) := by
  refine ⟨by rw [Int.natAbs_natCast]; exact hn, ?_⟩
  rw [if_neg (by omega), List.nil_append]
  obtain ⟨hc, hv⟩ := dec_canon n
  simp only [Int.natAbs_natCast]
  exact canon_inj h.1 hc (h.2.trans hv.symm)
theorem mulZ {a b : ByteArray} {x y : Int} (w : World) (ha : WT a x) (hb : WT b y) (hlt : (x * y).natAbs < 10 ^ 600) :
    Calls Tryd.prog 95 #[.string a, .string b] w fun e w' => (∃ s : ByteArray, e = .returned (.tuple #[.string s, .bool true]) ∧ WT s (x * y)) ∧ Below w.heap.size w w' := by
  refine (specMulNum_any a b w (by have := ha.size; unfold maxLen; omega) (by have := hb.size; unfold maxLen; omega)).mono ?_
  rintro e w' ⟨h1, h2⟩
  exact ⟨mulW ha hb hlt h1, h2⟩
theorem subZ {a b : ByteArray} {x y : Int} (w : World) (ha : WT a x) (hb : WT b y) (hlt : (x - y).natAbs < 10 ^ 600) :
    Calls Tryd.prog 96 #[.string a, .string b] w fun e w' => (∃ s : ByteArray, e = .returned (.tuple #[.string s, .bool true]) ∧ WT s (x - y)) ∧ Below w.heap.size w w' := by
  refine (specSubNum_any a b w (by have := ha.size; unfold maxLen; omega) (by have := hb.size; unfold maxLen; omega)).mono ?_
  rintro e w' ⟨h1, h2⟩
  exact ⟨subW ha hb hlt h1, h2⟩

theorem max_lt3 {A B T : Nat} (hA : A < T) (hB : B < T) : max A B < T := by rw [Nat.max_def]; split <;> assumption
/-- The state of the steps: all in bounds, and what they come to. -/
def BzOk (A B r r' : Nat) (x y x' y' : Int) : Prop := Col (B : Int) r r' x x' ∧ Col (A : Int) r r' y y' ∧ r ≤ max A B ∧ r' ≤ max A B ∧ bz r' r x y x' y' = bz B A 1 0 0 1
theorem BzOk.start (A B : Nat) : BzOk A B A B 1 0 0 1 := ⟨Col.start_x A B, Col.start_y A B, Nat.le_max_left _ _, Nat.le_max_right _ _, rfl⟩
theorem BzOk.step {A B r r' : Nat} {x y x' y' : Int} (h : BzOk A B r r' x y x' y') (h0 : r' ≠ 0) : BzOk A B r' (r % r') x' y' (x - ((r / r' : Nat) : Int) * x') (y - ((r / r' : Nat) : Int) * y') := by
  obtain ⟨h1, h2, h3, h4, h5⟩ := h
  refine ⟨h1.step, h2.step, h4, Nat.le_trans (Nat.le_of_lt (Nat.mod_lt _ (Nat.pos_of_ne_zero h0))) h4, ?_⟩
  rw [← h5, bz_step h0]
/-- What laBezout answers. -/
def BzOut (A B : Nat) (e : Ending) : Prop := ∃ s t u : ByteArray, e = .returned (.tuple #[.string s, .string t, .string u]) ∧ Tx s (bz B A 1 0 0 1).1 ∧ WT t (bz B A 1 0 0 1).2.1 ∧ WT u (bz B A 1 0 0 1).2.2

set_option maxHeartbeats 4000000 in
set_option maxRecDepth 100000 in
theorem laBezout_any {a b : ByteArray} {A B : Nat} (w : World) (ha : Tx a A) (hb : Tx b B) (hA : A < 10 ^ 600) (hB : B < 10 ^ 600) :
    Calls Tryd.prog 50 #[.string a, .string b] w fun e w' => BzOut A B e ∧ Below w.heap.size w w' := by
  have HAB := hideT (And.intro ha (And.intro hb (And.intro hA hB)))
  have HM : Hid (max A B < 10 ^ 600) := max_lt3 hA hB
  have H1 : Hid (WT ⟨#[49]⟩ 1 ∧ WT ⟨#[48]⟩ 0) := ⟨WT.of_tx (n := 1) ⟨by decide, by decide⟩ one_lt_600, WT.of_tx (n := 0) ⟨by decide, by decide⟩ (Nat.lt_trans (by decide) one_lt_600)⟩
  clear ha hb hA hB
  go_enter Tryd.func50, Tryd.ntmps50
  go_wp2_with fail
  go_loopg [0, 1, 7, 8, 9, 10] B (fun g va vb vx vy vu vv wr => ∃ (r : Nat) (x y x' y' : Int) (sr sr' sx sy sx' sy' : ByteArray), va = .string sr ∧ vb = .string sr' ∧ vx = .string sx ∧ vy = .string sy ∧ vu = .string sx' ∧ vv = .string sy' ∧ Hid (BzOk A B r g x y x' y') ∧ Hid (Tx sr r ∧ Tx sr' g ∧ WT sx x ∧ WT sy y ∧ WT sx' x' ∧ WT sy' y') ∧ Hid (Below w.heap.size w wr))
  case atStart => exact ⟨A, 1, 0, 0, 1, a, b, ⟨#[49]⟩, ⟨#[48]⟩, ⟨#[48]⟩, ⟨#[49]⟩, rfl, rfl, rfl, rfl, rfl, rfl, BzOk.start A B, ⟨HAB.out.1, HAB.out.2.1, H1.out.1, H1.out.2, H1.out.2, H1.out.1⟩, Below.refl _ _⟩
  case round =>
    obtain ⟨r, x, y, x', y', sr, sr', sx, sy, sx', sy', rfl, rfl, rfl, rfl, rfl, rfl, HO, HT, HBL⟩ := hrel
    have hbl := HBL.out.size
    have hz := HT.out.2.1.bytes [48] (by decide)
    rw [show dval [48] = 0 by decide] at hz
    by_cases h0 : gk = 0
    · rw [decide_eq_true h0] at hz
      have HE : Hid (BzOut A B (.returned (.tuple #[.string sr, .string sx, .string sy]))) := by
        have h5 := HO.out.2.2.2.2
        rw [h0, bz_end] at h5
        refine ⟨sr, sx, sy, rfl, ?_, ?_, ?_⟩ <;> rw [← h5]
        · exact HT.out.1
        · exact HT.out.2.2.1
        · exact HT.out.2.2.2.1
      clear h0
      go_wp2
      go_ret3
      exact ⟨HE.out, HBL.out⟩
    · rw [decide_eq_false h0] at hz
      have HS := hideT (HO.out.step h0)
      have hpos : 0 < gk := Nat.pos_of_ne_zero h0
      have bx := HO.out.1.bound hpos
      have by' := HO.out.2.1.bound hpos
      have hAB : Hid (A < 10 ^ 600 ∧ B < 10 ^ 600) := HAB.out.2.2
      have HBD : Hid ((((r / gk : Nat) : Int) * x').natAbs < 10 ^ 600 ∧ (x - ((r / gk : Nat) : Int) * x').natAbs < 10 ^ 600 ∧ (((r / gk : Nat) : Int) * y').natAbs < 10 ^ 600 ∧ (y - ((r / gk : Nat) : Int) * y').natAbs < 10 ^ 600) := by
        simp only [Int.natAbs_natCast] at bx by'
        exact ⟨Nat.lt_of_le_of_lt bx.2 hAB.out.2, Nat.lt_of_le_of_lt bx.1 hAB.out.2, Nat.lt_of_le_of_lt by'.2 hAB.out.1, Nat.lt_of_le_of_lt by'.1 hAB.out.1⟩
      have HR : Hid (r < 10 ^ 600 ∧ gk < 10 ^ 600) := ⟨Nat.lt_of_le_of_lt HO.out.2.2.1 HM.out, Nat.lt_of_le_of_lt HO.out.2.2.2.1 HM.out⟩
      have hsr : sr.size ≤ 600 := HT.out.1.size HR.out.1 (by omega)
      have hsr' : sr'.size ≤ 600 := HT.out.2.1.size HR.out.2 (by omega)
      have HLT : Hid (r % gk < gk) := Nat.mod_lt _ hpos
      have HP := hideT h0
      clear h0 bx by' hpos
      go_wp2_with fail
      refine (divT _ HT.out.1 HT.out.2.1 (by omega) (by omega) HP.out).mono ?_
      rintro e w1 ⟨q, t, rfl, hq, ht, hW1⟩
      have HQ : Hid (WT q ((r / gk : Nat) : Int)) := WT.of_tx hq (Nat.lt_of_le_of_lt (Nat.div_le_self _ _) HR.out.1)
      have HTT := hideT ht
      have hB1 : Below w.heap.size w w1 := HBL.out.trans (hW1.mono hbl)
      clear hq ht hW1
      go_wp2_with fail
      refine (mulZ w1 HQ.out HT.out.2.2.2.2.1 HBD.out.1).mono ?_
      rintro e w2 ⟨⟨m1, rfl, hm1⟩, hW2⟩
      have HM1 := hideT hm1
      have hB2 : Below w.heap.size w w2 := hB1.trans (hW2.mono hB1.size)
      clear hm1 hW2 hB1
      go_wp2_with fail
      refine (subZ w2 HT.out.2.2.1 HM1.out HBD.out.2.1).mono ?_
      rintro e w3 ⟨⟨d1, rfl, hd1⟩, hW3⟩
      have HD1 := hideT hd1
      have hB3 : Below w.heap.size w w3 := hB2.trans (hW3.mono hB2.size)
      clear hd1 hW3 hB2
      go_wp2_with fail
      refine (mulZ w3 HQ.out HT.out.2.2.2.2.2 HBD.out.2.2.1).mono ?_
      rintro e w4 ⟨⟨m2, rfl, hm2⟩, hW4⟩
      have HM2 := hideT hm2
      have hB4 : Below w.heap.size w w4 := hB3.trans (hW4.mono hB3.size)
      clear hm2 hW4 hB3
      go_wp2_with fail
      refine (subZ w4 HT.out.2.2.2.1 HM2.out HBD.out.2.2.2).mono ?_
      rintro e w5 ⟨⟨d2, rfl, hd2⟩, hW5⟩
      have HD2 := hideT hd2
      have hB5 : Below w.heap.size w w5 := hB4.trans (hW5.mono hB4.size)
      clear hd2 hW5 hB4
      go_wp2
      go_roundg (r % gk)
      case measure => exact HLT.out
      case rel => exact ⟨gk, x', y', _, _, sr', t, sx', sy', d1, d2, rfl, rfl, rfl, rfl, rfl, rfl, HS, ⟨HT.out.2.1, HTT.out, HT.out.2.2.2.2.1, HT.out.2.2.2.2.2, HD1.out, HD2.out⟩, hB5⟩

/-- May Bezout's numbers be told? -/
def bzOk (a b : ByteArray) : Bool := (goodB a.data.toList && goodB b.data.toList) && !(decide (dval a.data.toList = 0) && decide (dval b.data.toList = 0))
/-- What BezoutNat answers. -/
def BzAns (a b : ByteArray) (e : Ending) : Prop :=
  (bzOk a b = true ∧ ∃ s t u : ByteArray, e = .returned (.tuple #[.string s, .string t, .string u, .bool true]) ∧ Tx s (bz (dval b.data.toList) (dval a.data.toList) 1 0 0 1).1 ∧ WT t (bz (dval b.data.toList) (dval a.data.toList) 1 0 0 1).2.1 ∧ WT u (bz (dval b.data.toList) (dval a.data.toList) 1 0 0 1).2.2) ∨ (bzOk a b = false ∧ e = .returned (.tuple #[.string ⟨#[]⟩, .string ⟨#[]⟩, .string ⟨#[]⟩, .bool false]))
theorem BzAns.same {a b : ByteArray} {e e' : Ending} (h : BzAns a b e) (g : BzAns a b e') : ∃ (s t u : ByteArray) (o : Bool), e = .returned (.tuple #[.string s, .string t, .string u, .bool o]) ∧ e' = .returned (.tuple #[.string s, .string t, .string u, .bool o]) := by
  rcases h with ⟨h0, s, t, u, rfl, h1, h2, h3⟩ | ⟨h0, rfl⟩
  · rcases g with ⟨g0, s', t', u', rfl, g1, g2, g3⟩ | ⟨g0, rfl⟩
    · obtain rfl := h1.inj g1
      obtain rfl := h2.inj g2
      obtain rfl := h3.inj g3
      exact ⟨_, _, _, _, rfl, rfl⟩
    · rw [h0] at g0; cases g0
  · rcases g with ⟨g0, _⟩ | ⟨g0, rfl⟩
    · rw [h0] at g0; cases g0
    · exact ⟨_, _, _, _, rfl, rfl⟩
end Go.Proofs.YtkcnadlencajaaaDoor
