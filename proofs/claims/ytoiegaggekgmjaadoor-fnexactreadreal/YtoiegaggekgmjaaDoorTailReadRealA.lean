/-
  The texts ImplReadB, BaseLate, ImplTen, ImplLen, ImplUp, ImplReadC, ImplReadD, RecArg, RealLaw, one behind the other, as one.
-/
import Derived.Test.YtoiegaggekgmjaaDoorImplReadA
import Derived.Test.YtoiegaggekgmjaaDoorPkSpecSub
import Derived.Test.YtoiegaggekgmjaaDoorBaseRow
import Derived.Test.YtoiegaggekgmjaaDoorBaseHeld
import Derived.OwnWalk
import Derived.Maps.AppendAt
import Derived.WalkMore
import Derived.Test.YtoiegaggekgmjaaDoorMoreMath
import Derived.Test.YtoiegaggekgmjaaDoorTimesWide
import Derived.Test.YtoiegaggekgmjaaDoorPkHeld
import Derived.Test.YtoiegaggekgmjaaDoorText
import Derived.Laws.CopyRow
import Derived.Test.YtoiegaggekgmjaaDoorPkDivideA
import Derived.Test.YtoiegaggekgmjaaDoorPkSpecNear
import Derived.Test.YtoiegaggekgmjaaDoorPkImplTwo2
import Derived.Test.YtoiegaggekgmjaaDoorImplReal
import Derived.Test.YtoiegaggekgmjaaDoorRecs
import Derived.Deep.Strs
import Derived.Carry
import Derived.WalkKit
import Derived.ProofKit
import Derived.OpenShut
import Derived.ShutString
import Derived.ChangeOld
import Derived.Test.YtoiegaggekgmjaaDoorRealMem

/-
  What impl.readTenPower answers.
-/
namespace Go.Proofs.YtoiegaggekgmjaaDoor
open Go.RowKit
set_option linter.unusedVariables false

theorem neg_dec (u : Nat) : negN (Lib.decDigits u) = false := by
  have h := (dec_canon u).1
  cases hl : Lib.decDigits u with
  | nil => rfl
  | cons c m =>
    rw [hl] at h
    have hd := (canon_cons h).1
    cases hn : negN (c :: m) with
    | false => rfl
    | true =>
      have : c = 45 := by simpa [negN] using hn
      rw [this] at hd
      cases hd
theorem dec_two {u : Nat} (h : u ≤ 99) : (Lib.decDigits u).length ≤ 2 := by
  have h1 := dec_canon u
  have := canon_size (s := ⟨(Lib.decDigits u).toArray⟩) (k := 2) (n := u) (by omega) (by simpa using h1.1) (by simpa using h1.2) (by omega)
  simpa [ByteArray.size] using this
theorem body_neg (l : List UInt8) : negN (45 :: l) = true ∧ bodyN (45 :: l) = l := ⟨rfl, rfl⟩
theorem body_pos {l : List UInt8} (h : negN l = false) : bodyN l = l := by unfold bodyN; rw [h]; rfl
/-- A small number's text is read as it. -/
theorem exp_itoa {v : Int} (h0 : -99 ≤ v) (h1 : v ≤ 99) : expP (Lib.itoa v) = some v := by
  by_cases hv : v < 0
  · have hi : Lib.itoa v = 45 :: Lib.decDigits v.natAbs := by unfold Lib.itoa; rw [if_pos hv]
    have hd := dec_canon v.natAbs
    have hl := dec_two (u := v.natAbs) (by omega)
    rw [hi]
    unfold expP
    rw [(body_neg _).1, (body_neg _).2, if_pos, if_pos rfl, hd.2]
    · congr 1; omega
    · rw [hd.1, decide_eq_true hl, Bool.true_and, Bool.true_and, Bool.true_and, Bool.not_eq_true']
      rw [beq_eq_false_iff_ne]
      intro e
      have := hd.2
      rw [e, show dval [48] = 0 by decide] at this
      omega
  · obtain ⟨n, rfl⟩ : ∃ n : Nat, v = (n : Int) := ⟨v.toNat, by omega⟩
    rw [itoa_nat]
    have hd := dec_canon n
    have hl := dec_two (u := n) (by omega)
    unfold expP
    rw [body_pos (neg_dec n), neg_dec n, hd.1, decide_eq_true hl, hd.2]
    rfl
theorem canon_itoa {l : List UInt8} (hc : canonB l = true) : l = Lib.decDigits (dval l) := canon_inj hc (dec_canon _).1 (dec_canon _).2.symm
theorem exp_back {l : List UInt8} {v : Int} (h : expP l = some v) : Lib.itoa v = l ∧ -99 ≤ v ∧ v ≤ 99 ∧ Lib.atoiAll l = .ok v := by
  unfold expP at h
  split at h
  case isFalse => cases h
  case isTrue hh =>
    simp only [Bool.and_eq_true, decide_eq_true_eq, Bool.not_eq_true'] at hh
    obtain ⟨⟨hc, hl⟩, hz⟩ := hh
    have h99 : dval (bodyN l) ≤ 99 := by
      have h1 := dval_lt (bodyN l) (canon_all hc)
      have : 10 ^ (bodyN l).length ≤ 10 ^ 2 := Nat.pow_le_pow_right (by decide) hl
      omega
    have hat := atoi_small hc (by omega)
    cases hn : negN l with
    | false =>
      rw [hn] at h
      have hb := body_pos hn
      rw [hb] at h hc h99 hat
      simp only [Bool.false_eq_true, if_false, Option.some.injEq] at h
      subst h
      refine ⟨?_, by omega, by omega, hat⟩
      rw [itoa_nat]; exact (canon_itoa hc).symm
    | true =>
      rw [hn] at h hz
      cases l with
      | nil => cases hn
      | cons c m =>
        have h45 : c = 45 := by simpa [negN] using hn
        subst h45
        rw [(body_neg m).2] at h hc h99 hat hz
        simp only [if_true, Option.some.injEq, Bool.true_and] at h hz
        subst h
        have hne : dval m ≠ 0 := by
          intro e
          have : m = [48] := canon_inj hc (by decide) (e.trans (by decide))
          rw [this] at hz
          cases hz
        refine ⟨?_, by omega, by omega, ?_⟩
        · unfold Lib.itoa
          rw [if_pos (by omega), show (-(dval m : Int)).natAbs = dval m by omega, ← canon_itoa hc]
        · have hp : Lib.parseMag m = .ok (dval m) := by
            have h0 := parse_small m 0 (canon_all hc) (by simp only [Nat.zero_mul, Nat.zero_add]; omega)
            simp only [Nat.zero_mul, Nat.zero_add] at h0
            unfold Lib.parseMag
            rw [if_neg (by intro e; rw [e] at hc; cases hc), h0]
          unfold Lib.atoiAll
          simp only
          rw [if_pos (by decide), hp]
          simp only
          rw [if_neg (by simp), if_neg (by omega), if_pos (by decide)]

theorem itoaW (x : Int) (w : World) (h0 : -9223372036854775808 ≤ x) (h1 : x ≤ 9223372036854775807) (hT : Tab w.heap.size w) :
    Calls Tryd.prog 41 #[.int .i64 x] w fun e w' => (∃ t : ByteArray, e = .returned (.string t) ∧ t.data.toList = Lib.itoa x) ∧ Below w.heap.size w w' := by
  refine (Tryd.strconv_Itoa x h0 h1 w hT.here).mono ?_
  rintro e w2 ⟨rfl, kk, os, hw2⟩
  have hgr : w.grownBy w2 none := by rw [hw2]; exact grown_grow _ _ _
  exact ⟨⟨_, rfl, by simp⟩, (Below.refl _ _).grown hgr (Nat.le_refl _) (by intro k hk; cases hk)⟩

/-- What it answers. -/
def PowAns (l : List UInt8) (e : Ending) : Prop := ∃ (v : Int) (b : Bool), e = .returned (.tuple #[.int .i64 v, .bool b]) ∧ ((tenP l = some v ∧ b = true ∧ -99 ≤ v ∧ v ≤ 99) ∨ (tenP l = none ∧ b = false))
theorem atoi_range {l : List UInt8} {v : Int} (h : Lib.atoiAll l = .ok v) : -9223372036854775808 ≤ v ∧ v ≤ 9223372036854775807 := by
  unfold Lib.atoiAll at h
  split at h
  · cases h
  · simp only at h
    repeat' split at h
    all_goals first | (cases h; done) | (injection h with h; omega)
theorem front_true {c : UInt8} {l : List UInt8} (h : frontB c l = true) : l.take 1 = [c] := by unfold frontB at h; exact eq_of_beq h
theorem front_false {c : UInt8} {l : List UInt8} (h : frontB c l = false) : ¬ l.take 1 = [c] := by
  intro e; unfold frontB at h; rw [e] at h; simp at h

set_option maxHeartbeats 4000000 in
set_option maxRecDepth 100000 in
theorem readTenPower_any (s : ByteArray) (w : World) (hs : s.size ≤ 1048576) (hT : Tab w.heap.size w) (hE : EV w) :
    Calls Tryd.prog 22 #[.string s] w fun e w' => PowAns s.data.toList e ∧ Below w.heap.size w w' := by
  have hm : s.size ≤ maxLen := by unfold maxLen; omega
  by_cases he : s.data.toList = []
  · have he' : (s.toList == []) = true := str_eq he
    have HA : Hid (PowAns s.data.toList (.returned (.tuple #[.int .i64 0, .bool true]))) := ⟨0, true, rfl, .inl ⟨by unfold tenP; rw [if_pos he], rfl, by omega, by omega⟩⟩
    clear he
    go_enter Tryd.func22, Tryd.ntmps22
    go_wp2
    refine bodyPost_ret (results_tmp2 rfl _ _ _) rfl ?_
    exact ⟨HA.out, Below.refl _ _⟩
  · have he' : (s.toList == []) = false := str_ne he
    have HE := hideT' he
    have HTE := hideT' (And.intro hT hE)
    clear he hT hE
    go_enter Tryd.func22, Tryd.ntmps22
    go_wp2_with fail
    refine (cutE_any s _ hm).mono ?_
    rintro e w0 ⟨t, rfl, ht, hw0⟩
    obtain rfl := hw0.symm
    have hts : t.size ≤ 1048576 := by
      have h1 : t.data.toList.length = t.size := by simp
      have h2 : s.data.toList.length = s.size := by simp
      rw [ht] at h1
      unfold backB at h1
      split at h1
      · rw [List.length_drop] at h1; omega
      · omega
    have HTT := hideT' ht
    clear ht
    obtain ⟨f, hf⟩ : ∃ f, frontB 101 s.data.toList = f := ⟨_, rfl⟩
    rw [hf]
    go_wp2_with fail
    refine (atoiX_any t _ hts HTE.out.2).mono ?_
    rintro e w1 ⟨⟨v, E, q, rfl, hq⟩, hW1⟩
    have hT1 : Tab w1.heap.size w1 := Tab.up (Tab.on HTE.out.1 hW1) hW1.size
    cases f with
    | false =>
      have HA : Hid (PowAns s.data.toList (.returned (.tuple #[.int .i64 0, .bool false]))) := ⟨0, false, rfl, .inr ⟨by unfold tenP; rw [if_neg HE.out, if_neg (front_false hf)], rfl⟩⟩
      clear hf hT1 hq
      go_wp2
      (try simp only [Exit.inBlock, Exit.then]); refine bodyPost_ret (results_tmp2 rfl _ _ _) rfl ?_
      exact ⟨HA.out, hW1⟩
    | true =>
      have HX : Hid (tenP s.data.toList = expP t.data.toList) := by
        unfold Hid tenP
        rw [if_neg HE.out, if_pos (front_true hf), HTT.out]
        unfold backB
        rw [hf]; rfl
      clear hf
      rcases hq with ⟨rfl, rfl, hat⟩ | ⟨rfl, ⟨tp, p, rfl⟩, hat⟩
      · have hr := atoi_range hat
        have HAT := hideT' hat
        clear hat
        go_wp2_with fail
        refine (itoaW v _ hr.1 hr.2 hT1).mono ?_
        rintro e w2 ⟨⟨u, rfl, hu⟩, hW2⟩
        have hW1' : Below w.heap.size w w2 := hW1.trans (hW2.mono hW1.size)
        clear hW1 hW2 hT1
        have hW1 := hW1'
        clear hW1'
        by_cases hut : u = t
        · have hut' : (u.toList == t.toList) = true := by rw [hut]; simp
          by_cases hlo : (-99 : Int) ≤ v
          · have hlob : decide ((-99 : Int) ≤ v) = true := decide_eq_true hlo
            by_cases hhi : v ≤ (99 : Int)
            · have HA : Hid (PowAns s.data.toList (.returned (.tuple #[.int .i64 v, .bool true]))) := ⟨v, true, rfl, .inl ⟨by rw [HX.out, ← hut, hu]; exact exp_itoa hlo hhi, rfl, hlo, hhi⟩⟩
              clear hu hut
              go_wp2
              (try simp only [Exit.inBlock, Exit.then]); refine bodyPost_ret (results_tmp2 rfl _ _ _) rfl ?_
              exact ⟨HA.out, hW1⟩
            · have HA : Hid (PowAns s.data.toList (.returned (.tuple #[.int .i64 v, .bool false]))) := by
                refine ⟨v, false, rfl, .inr ⟨?_, rfl⟩⟩
                rw [HX.out]
                cases hx : expP t.data.toList with
                | none => rfl
                | some y =>
                  have := exp_back hx
                  have h2 := HAT.out
                  rw [this.2.2.2] at h2
                  injection h2 with h2
                  omega
              clear hu hut
              have hhib : decide (v ≤ (99 : Int)) = false := decide_eq_false hhi
              go_wp2
              (try simp only [Exit.inBlock, Exit.then]); refine bodyPost_ret (results_tmp2 rfl _ _ _) rfl ?_
              exact ⟨HA.out, hW1⟩
          · have hlob : decide ((-99 : Int) ≤ v) = false := decide_eq_false hlo
            have HA : Hid (PowAns s.data.toList (.returned (.tuple #[.int .i64 v, .bool false]))) := by
              refine ⟨v, false, rfl, .inr ⟨?_, rfl⟩⟩
              rw [HX.out]
              cases hx : expP t.data.toList with
              | none => rfl
              | some y =>
                have := exp_back hx
                have h2 := HAT.out
                rw [this.2.2.2] at h2
                injection h2 with h2
                omega
            clear hu hut
            go_wp2
            (try simp only [Exit.inBlock, Exit.then]); refine bodyPost_ret (results_tmp2 rfl _ _ _) rfl ?_
            exact ⟨HA.out, hW1⟩
        · have hne : u.data.toList ≠ t.data.toList := fun e => hut (WideShapes.bytes_inj e)
          have hut' : (u.toList == t.toList) = false := by rw [show t.toList = t.data.toList by rw [ByteArray.toList_eq]]; exact str_ne hne
          have HA : Hid (PowAns s.data.toList (.returned (.tuple #[.int .i64 0, .bool false]))) := by
            refine ⟨0, false, rfl, .inr ⟨?_, rfl⟩⟩
            rw [HX.out]
            cases hx : expP t.data.toList with
            | none => rfl
            | some y =>
              have := exp_back hx
              have h2 := HAT.out
              rw [this.2.2.2] at h2
              injection h2 with h2
              rw [hu, ← h2] at hne
              exact absurd this.1 hne
          clear hu hut hne
          go_wp2
          (try simp only [Exit.inBlock, Exit.then]); refine bodyPost_ret (results_tmp2 rfl _ _ _) rfl ?_
          exact ⟨HA.out, hW1⟩
      · have HA : Hid (PowAns s.data.toList (.returned (.tuple #[.int .i64 0, .bool false]))) := by
          refine ⟨0, false, rfl, .inr ⟨?_, rfl⟩⟩
          rw [HX.out]
          cases hx : expP t.data.toList with
          | none => rfl
          | some y => exact absurd (exp_back hx).2.2.2 (hat y)
        clear hat hT1
        go_wp2
        (try simp only [Exit.inBlock, Exit.then]); refine bodyPost_ret (results_tmp2 rfl _ _ _) rfl ?_
        exact ⟨HA.out, hW1⟩
end Go.Proofs.YtoiegaggekgmjaaDoor

/-
  Drawn regions some of whose operations write late; appends whose place is known.
-/
namespace Go.Proofs.YtoiegaggekgmjaaDoor.BL
open Go.RowKit Go.Proofs.YtoiegaggekgmjaaDoor
set_option linter.unusedVariables false

section
variable {P : Program} {ops : Array Oper} {Q : Exit → Act → World → Prop} {md : Region.Mode} {late : List Nat} {S : World → Prop}

/-- One of the late ones came up, or S holds. -/
def LateOr (late : List Nat) (S : World → Prop) (listed : Array Bool) (w : World) : Prop := (∃ k ∈ late, listed.getD k false = true) ∨ S w

/-- Whatever order is picked, S holding behind every operation till a late one came up. -/
def wpAnyL (P : Program) (md : Region.Mode) (ops : Array Oper) (Q : Exit → Act → World → Prop) (late : List Nat) (S : World → Prop) : Nat → Array Bool → Act → World → Prop
  | 0, listed, a, w => Region.ready md ops listed = [] ∧ Q .normal a w
  | fuel + 1, listed, a, w =>
    (Region.ready md ops listed = [] → Q .normal a w) ∧
    ∀ i ∈ Region.ready md ops listed, wpOp P ops Q i (fun a' w' => LateOr late S (listed.setIfInBounds i true) w' ∧ wpAnyL P md ops Q late S fuel (listed.setIfInBounds i true) a' w') a w

theorem wpAny_of_late : ∀ (fuel : Nat) (listed : Array Bool) (a : Act) (w : World), wpAnyL P md ops Q late S fuel listed a w → wpAny P md ops Q fuel listed a w
  | 0, _, _, _, h => h
  | fuel + 1, _, _, _, h => ⟨h.1, fun i hi => wpOp_mono (fun a' w' h' => wpAny_of_late fuel _ a' w' h'.2) (h.2 i hi)⟩

theorem wpAnyL_first {i : Nat} {oi : Oper} {v : Value} (hi : ops[i]? = some oi) (hsel : ∀ (j : Nat) (o : Oper) cs b, ops[j]? = some o → o.op ≠ .select cs b)
    (hQ : ∀ c a w, Q (.panic c) (a.put oi.dst v) w → Q (.panic c) a w) (W : List Nat) (hLW : ∀ k ∈ late, k ∈ W) (hil : i ∉ W) (hwait : ∀ k ∈ W, ∀ ok, ops[k]? = some ok → ∃ e ∈ ok.after, Region.binds md e = true ∧ (e.on = i ∨ e.on ∈ W)) :
    ∀ (fuel : Nat) (listed : Array Bool) (a : Act) (w : World),
      (∀ j oj, ops[j]? = some oj → j ≠ i → listed.getD j true = false → (∀ e ∈ oj.after, Region.binds md e = true → e.on ≠ i) → oi.apart ops oj = true) →
      (∀ k ∈ W, listed.getD k false = false) → i ∈ Region.ready md ops listed → YieldsIf P ops S oi v a → S w →
      wpAnyL P md ops Q late S fuel (listed.setIfInBounds i true) (a.put oi.dst v) w → wpAnyL P md ops Q late S (fuel + 1) listed a w := by
  intro fuel
  induction fuel with
  | zero =>
    intro listed a w _ _ hr hy hS H
    refine ⟨fun h => (by rw [h] at hr; cases hr), fun j hj => ?_⟩
    by_cases hji : j = i
    · subst hji; exact hy.wpOp hi hS ⟨.inr hS, H⟩
    · have := ready_mono hj hji
      rw [H.1] at this
      cases this
  | succ fuel ih =>
    intro listed a w hfree hlate hr hy hS H
    refine ⟨fun h => (by rw [h] at hr; cases hr), fun j hj => ?_⟩
    by_cases hji : j = i
    · subst hji; exact hy.wpOp hi hS ⟨.inr hS, H⟩
    · have h1 := H.2 j (ready_mono hj hji)
      obtain ⟨hjun, oj, hoj, hall⟩ := mem_ready.1 hj
      have hnot : ∀ e ∈ oj.after, Region.binds md e = true → e.on ≠ i := fun e he hb heq => by
        have h1 := hall e he hb
        have h0 := (mem_ready.1 hr).1
        rw [heq] at h1
        rcases Nat.lt_or_ge i listed.size with h' | h'
        · simp [h'] at h0 h1; rw [h0] at h1; cases h1
        · simp [Array.getElem?_eq_none h'] at h1
      have hjl : j ∉ W := fun hj' => by
        obtain ⟨e, he, hb, heq⟩ := hwait j hj' oj hoj
        rcases heq with heq | heq
        · exact hnot e he hb heq
        · have := hall e he hb
          rw [hlate _ heq] at this
          cases this
      have h2 := wpOp_putIf hoj (hfree j oj hoj hji hjun hnot) (fun cs b => hsel i oi cs b hi) (fun cs b => hsel j oj cs b hoj) hQ hy h1
      have hfree' : ∀ k ok, ops[k]? = some ok → k ≠ i → (listed.setIfInBounds j true).getD k true = false →
          (∀ e ∈ ok.after, Region.binds md e = true → e.on ≠ i) → oi.apart ops ok = true := fun k ok hk hki hun hno => by
        refine hfree k ok hk hki ?_ hno
        by_cases hjk : j = k
        · subst hjk; exact hjun
        · rw [getD_set_ne true hjk] at hun; exact hun
      have hlate' : ∀ k ∈ W, (listed.setIfInBounds j true).getD k false = false := fun k hk => by
        rw [getD_set_ne false (fun e => hjl (by rw [e]; exact hk))]; exact hlate k hk
      refine wpOp_mono (fun a' w' h3 => ?_) h2
      have hS' : S w' := by
        rcases h3.2.1 with ⟨k, hk, h⟩ | h
        · rw [getD_set_ne false (fun e => hjl (by rw [e]; exact hLW k hk)), getD_set_ne false (fun e => hil (by rw [e]; exact hLW k hk)), hlate k (hLW k hk)] at h
          cases h
        · exact h
      refine ⟨.inr hS', ih (listed.setIfInBounds j true) a' w' hfree' hlate' (ready_mono hr (Ne.symm hji)) h3.1 hS' ?_⟩
      rw [Array.setIfInBounds_comm _ _ hji]
      exact h3.2.2

/-- All of W, and so the late ones, wait for number i. -/
def waitsAll (md : Region.Mode) (ops : Array Oper) (late W : List Nat) (listed : Array Bool) (i : Nat) : Bool :=
  (late.all fun k => W.contains k) && (!W.contains i && W.all fun k => !listed.getD k false && match ops[k]? with
    | some ok => ok.after.any fun e => Region.binds md e && (e.on == i || W.contains e.on)
    | none => true)

/-- Number i may be taken first. -/
theorem late_val {o : Oper} {fuel : Nat} {listed : Array Bool} {a : Act} {w : World} (i : Nat) (d : Option Tmp) (hi : ops[i]? = some o) (hd : o.dst = d) (hs : Region.noSelect ops = true) (hf : Region.free md ops listed i = true) (hr : (Region.ready md ops listed).contains i = true)
    (W : List Nat) (hl : waitsAll md ops late W listed i = true) (hQ : ∀ c a d v w, Q (.panic c) (Act.put a d v) w → Q (.panic c) a w) (hw : Region.wanted o (yielded ops a.tmps) = true) (v : Value) (hv : ∀ w, S w → (execOp a.eval o).run P w = .ok (.value v) w) (hS : S w)
    (h : wpAnyL P md ops Q late S fuel (listed.setIfInBounds i true) (a.put d v) w) : wpAnyL P md ops Q late S (fuel + 1) listed a w := by
  subst hd
  unfold waitsAll at hl
  simp only [Bool.and_eq_true, Bool.not_eq_true', List.all_eq_true] at hl
  obtain ⟨hl0, hl1, hl2⟩ := hl
  refine wpAnyL_first hi (Region.noSelect_spec hs) (fun c a w => hQ c a _ _ w) W (fun k hk => by simpa using hl0 k hk) (fun h => by simp [h] at hl1) (fun k hk ok hok => ?_) fuel listed a w (Region.free_spec hi hf) (fun k hk => (hl2 k hk).1) (by simpa using hr) (.inl ⟨hw, hv⟩) hS h
  have h2 := (hl2 k hk).2
  rw [hok] at h2
  simp only [Array.any_eq_true', Bool.and_eq_true, Bool.or_eq_true, beq_iff_eq, List.contains_iff_mem] at h2
  exact h2

/-- The one operation that may come up. -/
theorem late_one {o : Oper} {fuel : Nat} {listed : Array Bool} {a : Act} {w : World} (i : Nat) (hr : Region.ready md ops listed = [i]) (hi : ops[i]? = some o) (hw : Region.wanted o (yielded ops a.tmps) = true)
    (h : ∀ K' : Act → World → Prop, Hid (∀ a w, LateOr late S (listed.setIfInBounds i true) w → wpAnyL P md ops Q late S fuel (listed.setIfInBounds i true) a w → K' a w) → Oper.wp P o a w K' Q) : wpAnyL P md ops Q late S (fuel + 1) listed a w := by
  refine ⟨fun h0 => (by rw [hr] at h0; cases h0), fun j hj => ?_⟩
  rw [hr] at hj
  simp only [List.mem_singleton] at hj
  subst hj
  refine wpOp_step hi fun K hK => ?_
  rw [if_pos hw]
  exact h K (fun a w h1 h2 => hK a w ⟨h1, h2⟩)

theorem late_done {listed : Array Bool} {a : Act} {w : World} (hr : Region.ready md ops listed = []) (h : Q .normal a w) :
    ∀ fuel, wpAnyL P md ops Q late S fuel listed a w
  | 0 => ⟨hr, h⟩
  | _ + 1 => ⟨fun _ => h, by rw [hr]; simp⟩
end

/-- The beginning. -/
theorem late_begin {ops : Array Oper} {Q : Exit → Act → World → Prop} {a : Act} {w : World} {id : Nat} (late : List Nat) (S : World → Prop) (hm : Tryd.prog.follows .mixedOrders = true) (h : wpAnyL Tryd.prog .any ops (NoPanic Q) late S ops.size (Array.replicate ops.size false) a w.drew) : (Code.region id ops true).wp Tryd.prog Q a w :=
  wp_region_noPanic (wp_region_any hm (wpAny_of_late _ _ _ _ h))

/-- A call. -/
theorem late_call {ops : Array Oper} {Q : Exit → Act → World → Prop} {md : Region.Mode} {late : List Nat} {S : World → Prop} {o : Oper} {fuel : Nat} {listed : Array Bool} {a : Act} {w : World} (i : Nat) (d : Option Tmp) (hr : Region.ready md ops listed = [i]) (hi : ops[i]? = some o) (hw : Region.wanted o (yielded ops a.tmps) = true) (hd : o.dst = d) (f : FuncId) (args : Array Value)
    (he : (execOp a.eval o).run Tryd.prog w = .ok (.enter f args) w) (R : Ending → World → Prop) (hc : Calls Tryd.prog f args w R)
    (h : ∀ e w', R e w' → ∃ v, e = .returned v ∧ LateOr late S (listed.setIfInBounds i true) w' ∧ wpAnyL Tryd.prog md ops Q late S fuel (listed.setIfInBounds i true) (a.put d v) w') : wpAnyL Tryd.prog md ops Q late S (fuel + 1) listed a w := by
  subst hd
  refine late_one i hr hi hw fun K hK => ?_
  unfold Oper.wp
  rw [he]
  simp only [Oper.upon]
  refine hc.mono ?_
  intro e w' hR
  obtain ⟨v, rfl, hS, hn⟩ := h e w' hR
  exact hK.out _ _ hS hn

/-- One cell of a row is written, as an operation. -/
theorem store_at_wp {op : Oper} {a : Act} {w : World} {K : Act → World → Prop} {Q : Exit → Act → World → Prop} (ty : TypeId) (x y : Operand) (ho : op.op = .store ty x y) (hd : op.dst = none)
    (b o : Nat) (v : Value) (hx : a.eval x = .pointer (some ⟨b, o, none⟩)) (hy : a.eval y = v) (hi : (Tryd.prog.info? ty).map (·.size) = some 1) (h1 : v.oneCell' = true) (t : TypeId) (cs : Array Value) (hR : RowAt w b t cs) (hon : o < cs.size)
    (h : ∀ w', RowAt w' b t (cs.setIfInBounds o v) → w.grownBy w' (some b) → w'.heap.size = w.heap.size → K a w') : op.wp Tryd.prog a w K Q := by
  have hc : (w.cell? ⟨b, o, none⟩).isSome = true := by rw [cell_of_row w b _ _ _ _ hR, Array.getElem?_eq_getElem hon]; rfl
  unfold Oper.wp execOp
  simp only [ho, hx, hy, Instr.storeAt, Instr.sureAddr, Sem.run_bind, Sem.run_pure, Result.andThen_ok, run_storeVar_cell w b o ty v hc (frozen_of_row w b _ _ _ hR) hi h1]
  have := h _ (heap_setCell_same w b o _ _ _ hR) (grown_set w b o v) (by simp)
  have e : a.put op.dst undef = a := by rw [hd]; rfl
  show K (a.put op.dst undef) _
  rw [e]
  exact this
/-- The one operation that may come up gives a value and changes the world. -/
theorem late_ready {ops : Array Oper} {Q : Exit → Act → World → Prop} {md : Region.Mode} {late : List Nat} {S : World → Prop} {o : Oper} {fuel : Nat} {listed : Array Bool} {a : Act} {w : World} (i : Nat) (d : Option Tmp) (hr : Region.ready md ops listed = [i]) (hi : ops[i]? = some o) (hw : Region.wanted o (yielded ops a.tmps) = true) (hd : o.dst = d) (v : Value) (w' : World)
    (he : (execOp a.eval o).run Tryd.prog w = .ok (.value v) w') (hS : LateOr late S (listed.setIfInBounds i true) w') (h : wpAnyL Tryd.prog md ops Q late S fuel (listed.setIfInBounds i true) (a.put d v) w') : wpAnyL Tryd.prog md ops Q late S (fuel + 1) listed a w := by
  subst hd
  refine late_one i hr hi hw fun K hK => ?_
  unfold Oper.wp
  rw [he]
  exact hK.out _ _ hS h
/-- Where a row lies that was added to: where it lay, or in the newest block. -/
theorem append_where {w : World} (base : Nat) (t ty e : TypeId) (i : TypeInfo) (z : Value) (size bytes : Nat) (ht : Tryd.prog.underlying t = some (.slice e)) (hi : Tryd.prog.info? e = some i) (hz : i.zero = some z) (hsize : i.size = size) (hby : i.bytes = bytes)
    (v : Value) (n : Nat) (xs : List Value) (hown : w.ownsRow base e size v n xs) (a : Addr) (m c : Nat) (news : List Value) (hl : news.length = m * size) (hnews : ∀ j u, news[j]? = some u → w.cell? (a.add j) = some u) (h1 : ∀ u ∈ news, u.oneCell' = true)
    (hm : 0 < m) (h63 : n + m ≤ maxLen) (hbytes : (n + m) * bytes ≤ 140737488355328) (v' : Value) (w' : World) (hrun : (Builtin.append_ #[t, t] ty #[v, .slice (some a) m c]).run Tryd.prog w = .ok v' w') : v'.ownBlock = v.ownBlock ∨ v'.ownBlock = some w.heap.size := by
  subst hsize
  subst hby
  have hsmall : n + m ≤ 9223372036854775807 := by simp only [maxLen] at h63; omega
  rcases hown.2 with ⟨rfl, rfl⟩ | ⟨g, cap, cur, rfl, hbg, hg, hnc, hcm, hcs, htake⟩
  · rw [run_append_nil (P := Tryd.prog) w t ty e i z ht hi hz a m c news hl hnews hm (by omega) (by simp only [Nat.zero_add] at hbytes; omega)] at hrun
    injection hrun with h2 h3
    right
    rw [← h2]; rfl
  · by_cases hroom : n + m ≤ cap
    · rw [run_append_room (P := Tryd.prog) w t ty e i ht hi g n cap cur hg a m c news hl hnews h1 hroom (by rw [hl, hcs, ← Nat.add_mul]; exact Nat.mul_le_mul_right _ hroom)] at hrun
      injection hrun with h2 h3
      left
      rw [← h2]; rfl
    · rw [run_append_grow (P := Tryd.prog) w t ty e i z ht hi hz ⟨g, 0, none⟩ n cap xs hown.1 (hown.cells (g := g) rfl) a m c news hl hnews (by omega) (by omega) (growslice_fits (by omega) hbytes)] at hrun
      injection hrun with h2 h3
      right
      rw [← h2]; rfl

/-- A row that one owns is added to, and one knows where it lies then. -/
theorem append_own3 (w : World) {ops : Array Oper} {rest : List Oper} {o : Oper} {a : Act} {Q : Exit → Act → World → Prop} (hgd : o.guard = none) (s x : Operand) (t : TypeId)
    (ho : o.op = .call { callee := .builtin .append, args := #[s, x], argTypes := #[t, t] })
    (base : Nat) (e : TypeId) (i : TypeInfo) (z : Value) (size bytes : Nat) (ht : Tryd.prog.underlying t = some (.slice e)) (hi : Tryd.prog.info? e = some i) (hz : i.zero = some z)
    (hsize : i.size = size) (hby : i.bytes = bytes) (hzs : z.cells.size = size) (hsz : 0 < size)
    (v : Value) (n : Nat) (xs : List Value) (hs : a.eval s = v) (hown : w.ownsRow base e size v n xs)
    (ad : Addr) (m c : Nat) (news : List Value) (hx : a.eval x = .slice (some ad) m c) (hl : news.length = m * size) (hnews : ∀ j u, news[j]? = some u → w.cell? (ad.add j) = some u) (h1 : ∀ u ∈ news, u.oneCell' = true) (hm : 0 < m)
    (h63 : n + m ≤ maxLen) (hbytes : (n + m) * bytes ≤ 140737488355328) (hbase : base ≤ w.heap.size)
    (h : ∀ v' w', w'.ownsRow base e size v' (n + m) (xs ++ news) → w.grownBy w' v.ownBlock → (v'.ownBlock = v.ownBlock ∨ v'.ownBlock = some w.heap.size) → wpList Tryd.prog ops Q rest (a.put o.dst v') w') : wpList Tryd.prog ops Q (o :: rest) a w :=
  wpList_plain hgd fun _ hK => by
    obtain ⟨v', w', hr, h2, h3, h4⟩ := run_append_own (P := Tryd.prog) w base t o.type e i z size bytes ht hi hz hsize hby hzs hsz v n xs hown ad m c news hl hnews h1 h63 hbytes hbase
    have h5 := append_where base t o.type e i z size bytes ht hi hz hsize hby v n xs hown ad m c news hl hnews h1 hm h63 hbytes v' w' hr
    unfold Oper.wp execOp
    simp only [ho, resolve, invoke, builtin, Sem.run_bind, Sem.run_pure, Result.andThen_ok, List.map_toArray, List.map_cons, List.map_nil, hs, hx, hr]
    exact hK _ _ (h v' w' h2 h3 h5)

/-- The same, of the operation alone. -/
theorem append_own3_wp (w : World) {o : Oper} {a : Act} {K : Act → World → Prop} {Q : Exit → Act → World → Prop} (s x : Operand) (t : TypeId)
    (ho : o.op = .call { callee := .builtin .append, args := #[s, x], argTypes := #[t, t] })
    (base : Nat) (e : TypeId) (i : TypeInfo) (z : Value) (size bytes : Nat) (ht : Tryd.prog.underlying t = some (.slice e)) (hi : Tryd.prog.info? e = some i) (hz : i.zero = some z)
    (hsize : i.size = size) (hby : i.bytes = bytes) (hzs : z.cells.size = size) (hsz : 0 < size)
    (v : Value) (n : Nat) (xs : List Value) (hs : a.eval s = v) (hown : w.ownsRow base e size v n xs)
    (ad : Addr) (m c : Nat) (news : List Value) (hx : a.eval x = .slice (some ad) m c) (hl : news.length = m * size) (hnews : ∀ j u, news[j]? = some u → w.cell? (ad.add j) = some u) (h1 : ∀ u ∈ news, u.oneCell' = true) (hm : 0 < m)
    (h63 : n + m ≤ maxLen) (hbytes : (n + m) * bytes ≤ 140737488355328) (hbase : base ≤ w.heap.size)
    (h : ∀ v' w', w'.ownsRow base e size v' (n + m) (xs ++ news) → w.grownBy w' v.ownBlock → (v'.ownBlock = v.ownBlock ∨ v'.ownBlock = some w.heap.size) → K (a.put o.dst v') w') : o.wp Tryd.prog a w K Q := by
  obtain ⟨v', w', hr, h2, h3, h4⟩ := run_append_own (P := Tryd.prog) w base t o.type e i z size bytes ht hi hz hsize hby hzs hsz v n xs hown ad m c news hl hnews h1 h63 hbytes hbase
  have h5 := append_where base t o.type e i z size bytes ht hi hz hsize hby v n xs hown ad m c news hl hnews h1 hm h63 hbytes v' w' hr
  unfold Oper.wp execOp
  simp only [ho, resolve, invoke, builtin, Sem.run_bind, Sem.run_pure, Result.andThen_ok, List.map_toArray, List.map_cons, List.map_nil, hs, hx, hr]
  exact h v' w' h2 h3 h5

theorem own_heap {w w' : World} {B n s : Nat} {e : TypeId} {v : Value} {xs : List Value} (h : w.ownsRow B e s v n xs) (hh : ∀ g, v.ownBlock = some g → w'.heap[g]? = w.heap[g]?) : w'.ownsRow B e s v n xs := by
  refine ⟨h.1, ?_⟩
  rcases h.2 with h1 | ⟨g, cap, cur, rfl, h2, h3, h4⟩
  · exact .inl h1
  · exact .inr ⟨g, cap, cur, rfl, h2, by rw [hh g rfl]; exact h3, h4⟩
/-- The one operation that may come up gives a value and changes the world. -/
theorem held_ready {ops : Array Oper} {Q : Exit → Act → World → Prop} {md : Region.Mode} {S : World → Prop} {o : Oper} {fuel : Nat} {listed : Array Bool} {a : Act} {w : World} (i : Nat) (d : Option Tmp) (hr : Region.ready md ops listed = [i]) (hi : ops[i]? = some o) (hw : Region.wanted o (yielded ops a.tmps) = true) (hd : o.dst = d) (v : Value) (w' : World)
    (he : (execOp a.eval o).run Tryd.prog w = .ok (.value v) w') (hS : S w') (h : wpAnyH Tryd.prog md ops Q S fuel (listed.setIfInBounds i true) (a.put d v) w') : wpAnyH Tryd.prog md ops Q S (fuel + 1) listed a w := by
  subst hd
  refine wpAnyH_ready hr (by simp) (AllReadyH.cons hi (fun K hK => ?_) AllReadyH.nil)
  rw [if_pos hw]
  unfold Oper.wp
  rw [he]
  exact hK.out _ _ hS (fun _ => h)
/-- A load of one cell, as an operation. -/
theorem run_cell1 {o : Oper} {a : Act} {w : World} (x : Operand) (T : TypeId) (ho : o.op = .load T x) (A : Addr) (hx : a.eval x = .pointer (some A)) (v : Value) {d : TypeDesc} (hu : Tryd.prog.underlying T = some d) (hd : d.isRow = false) (hc : w.cell? A = some v) :
    (execOp a.eval o).run Tryd.prog w = .ok (.value v) w := by
  have hagg : (isAgg T).run Tryd.prog w = .ok false w := by
    unfold isAgg
    rw [Sem.run_bind, run_underlying hu w]
    cases d <;> simp_all
  have hv : (loadVar T A).run Tryd.prog w = .ok v w := by simp [loadVar, hagg, go_sem, hc]
  unfold execOp
  simp only [ho, hx, Instr.loadAt, Instr.sureAddr, Sem.run_bind, Sem.run_pure, Result.andThen_ok, hv]
/-- A new row, as an operation. -/
theorem run_make1 {o : Oper} {a : Act} {w w' : World} (T : TypeId) (x y : Operand) (ho : o.op = .makeSlice T x y) (u v r : Value) (hx : a.eval x = u) (hy : a.eval y = v) (h : (Instr.makeSlice T u v).run Tryd.prog w = .ok r w') :
    (execOp a.eval o).run Tryd.prog w = .ok (.value r) w' := by
  unfold execOp
  simp only [ho, hx, hy, Sem.run_bind, Sem.run_pure, Result.andThen_ok, h]
end Go.Proofs.YtoiegaggekgmjaaDoor.BL

/-
  What tenTo of impl's nats answer.
-/
namespace Go.Proofs.YtoiegaggekgmjaaDoor
open Go.RowKit
set_option linter.unusedVariables false

/-- It tells ten to a power. -/
def IsTen (t : Nat) (e : Ending) : Prop := ∃ y : Int, e = .returned (.int .i64 y) ∧ y = ((10 ^ t : Nat) : Int)
set_option maxHeartbeats 1000000 in
set_option maxRecDepth 100000 in
theorem tenTo_any (t : Nat) (w : World) (ht : t ≤ 5) :
    Calls Tryd.prog 44 #[.int .i64 (t : Int)] w fun e w' => IsTen t e ∧ w' = w := by
  go_enter Tryd.func44, Tryd.ntmps44
  go_wp2
  go_loopg [3, 5] t (fun g x i wr => ∃ (j : Nat) (y : Int), g = t - j ∧ j ≤ t ∧ x = .int .i64 y ∧ i = .int .i64 (j : Int) ∧ Hid (y = ((10 ^ j : Nat) : Int)) ∧ 0 ≤ y ∧ y ≤ 100000 ∧ wr = w)
  case atStart => exact ⟨0, 1, rfl, by omega, rfl, rfl, rfl, by omega, by omega, rfl⟩
  case round =>
    obtain ⟨j, y, hg, hj, rfl, rfl, HY, hy0, hy1, rfl⟩ := hrel
    by_cases hlt : (j : Int) < (t : Int)
    · obtain ⟨z, hz⟩ : ∃ z, y * 10 = z := ⟨_, rfl⟩
      have hwz : IntKind.i64.wrap z = z := by rw [IntKind.wrap_i64]; omega
      have HZ : Hid (z = ((10 ^ (j + 1) : Nat) : Int)) := by unfold Hid; rw [← hz, HY.out, Nat.pow_succ]; simp
      have hz1 : z ≤ 100000 := by
        rw [HZ.out]
        have : 10 ^ (j + 1) ≤ 10 ^ 5 := Nat.pow_le_pow_right (by decide) (by omega)
        have e5 : (10 : Nat) ^ 5 = 100000 := by decide
        omega
      go_wp2
      go_roundg (t - (j + 1))
      case measure => omega
      case rel => exact ⟨j + 1, z, rfl, by omega, rfl, by go_num, HZ, by omega, hz1, rfl⟩
    · obtain rfl : j = t := by omega
      go_wp2
      go_ret
      exact ⟨⟨y, rfl, HY.out⟩, rfl⟩

/-- How many digits a number has. -/
def Len (n L : Nat) : Prop := 1 ≤ L ∧ n < 10 ^ L ∧ (n ≠ 0 → 10 ^ (L - 1) ≤ n) ∧ (n = 0 → L = 1)
theorem Len.of_top {n k x L : Nat} (hx : 10 ^ (L - 1) ≤ x) (hx2 : x < 10 ^ L) (hL : 1 ≤ L) (h1 : x * 1000000 ^ k ≤ n) (h2 : n < (x + 1) * 1000000 ^ k) : Len n (6 * k + L) := by
  have e : (1000000 : Nat) ^ k = 10 ^ (6 * k) := by rw [show (1000000 : Nat) = 10 ^ 6 from rfl, ← Nat.pow_mul]
  rw [e] at h1 h2
  have hpos : 0 < 10 ^ (6 * k) := Nat.pow_pos (by decide)
  have hlow : 10 ^ (6 * k + L - 1) ≤ n := by
    rw [show 6 * k + L - 1 = (L - 1) + 6 * k by omega, Nat.pow_add]
    exact Nat.le_trans (Nat.mul_le_mul_right _ hx) h1
  refine ⟨by omega, ?_, fun _ => hlow, fun h => ?_⟩
  · rw [show 6 * k + L = L + 6 * k by omega, Nat.pow_add]
    exact Nat.lt_of_lt_of_le h2 (Nat.mul_le_mul_right _ hx2)
  · have : 0 < 10 ^ (6 * k + L - 1) := Nat.pow_pos (by decide)
    omega
theorem Rep.top_bd {n k : Nat} {p : List Int} (h : Rep n k p) (hk : 0 < k) : ∃ x : Nat, p.getD (k - 1) 0 = (x : Int) ∧ 0 < x ∧ x < 1000000 ∧ x * 1000000 ^ (k - 1) ≤ n ∧ n < (x + 1) * 1000000 ^ (k - 1) := by
  obtain ⟨x, hx⟩ : ∃ x : Nat, p.getD (k - 1) 0 = (x : Int) := ⟨(p.getD (k - 1) 0).toNat, by have := h.lo (k - 1); omega⟩
  have h0 := h.top hk
  have h1 := h.hi (k - 1)
  have hl := h.len
  have hle := h.le
  have hs := vb_split 1000000 p (k - 1) (by omega)
  have hd : vb 1000000 (p.drop (k - 1)) = (x : Int) := by
    rw [List.drop_eq_getElem_cons (by omega)]
    have e1 : p[k - 1]'(by omega) = (x : Int) := by rw [← hx]; simp [List.getD, show k - 1 < p.length by omega]
    simp only [vb, e1]
    rw [vb_zero 1000000 _ (fun i => by rw [getD_drop]; exact h.out _ (by omega))]; simp
  have ht := vb_lt 1000000 (by decide) (p.take (k - 1)) (k - 1) (fun i => by rw [getD_take]; split; exact h.lo i; omega) (fun i => by rw [getD_take]; split; exact h.hi i; omega) (fun i hi => by rw [getD_take, if_neg (by omega)])
  rw [h.val, hd] at hs
  refine ⟨x, hx, by omega, by omega, ?_, ?_⟩
  · have : ((x * 1000000 ^ (k - 1) : Nat) : Int) ≤ (n : Int) := by
      rw [Int.natCast_mul, Int.natCast_pow, Int.mul_comm]
      have : ((1000000 : Nat) : Int) = 1000000 := rfl
      rw [this]; omega
    exact_mod_cast this
  · have : (n : Int) < (((x + 1) * 1000000 ^ (k - 1) : Nat) : Int) := by
      rw [Int.natCast_mul, Int.natCast_pow, Int.natCast_add, Int.mul_comm, Int.mul_add]
      have : ((1000000 : Nat) : Int) = 1000000 := rfl
      rw [this]; omega
    exact_mod_cast this
theorem dec_len (x : Nat) (h : 0 < x) : 10 ^ ((Lib.decDigits x).length - 1) ≤ x ∧ x < 10 ^ (Lib.decDigits x).length ∧ 1 ≤ (Lib.decDigits x).length := by
  obtain ⟨h1, h2⟩ := dec_canon x
  refine ⟨?_, ?_, canon_pos h1⟩
  · by_cases hl : 1 < (Lib.decDigits x).length
    · have := canon_low h1 hl; rwa [h2] at this
    · have := canon_pos h1
      rw [show (Lib.decDigits x).length - 1 = 0 by omega]; exact h
  · have := dval_lt _ (canon_all h1); rwa [h2] at this
end Go.Proofs.YtoiegaggekgmjaaDoor

/-
  What length and raised of impl's nats answer.
-/
namespace Go.Proofs.YtoiegaggekgmjaaDoor
open Go.RowKit
set_option linter.unusedVariables false

end Go.Proofs.YtoiegaggekgmjaaDoor

/-
  What raised of impl's nats answers.
-/
namespace Go.Proofs.YtoiegaggekgmjaaDoor
open Go.RowKit
set_option linter.unusedVariables false

/-- Parts moved up. -/
def upP (s i : Nat) (r : List Int) : List Int := List.replicate s 0 ++ r.take i ++ List.replicate (204 - (s + i)) 0
theorem upP_len {s i : Nat} {r : List Int} (h : s + i ≤ 204) (hr : r.length = 204) : (upP s i r).length = 204 := by
  simp [upP, hr]; omega
theorem upP_get {s i : Nat} {r : List Int} (hi : i ≤ r.length) (j : Nat) : (upP s i r).getD j 0 = if s ≤ j ∧ j < s + i then r.getD (j - s) 0 else 0 := by
  unfold upP
  simp only [List.getD]
  by_cases h1 : j < s
  · rw [List.append_assoc, List.getElem?_append_left (by simpa using h1), if_neg (by omega)]; simp [h1]
  · by_cases h2 : j < s + i
    · rw [List.append_assoc, List.getElem?_append_right (by simp; omega), List.length_replicate, List.getElem?_append_left (by simp; omega), if_pos (by omega), List.getElem?_take_of_lt (by omega)]
    · rw [List.getElem?_append_right (by simp; omega), if_neg (by omega)]
      simp only [List.getElem?_replicate]; split <;> rfl
theorem vb_repl (B : Int) (s : Nat) : vb B (List.replicate s 0) = 0 := vb_zero B _ (fun i => by simp only [List.getD, List.getElem?_replicate]; split <;> rfl)
theorem Rep.up {v i : Nat} {r : List Int} (h : Rep v i r) (s : Nat) (hs : s + i ≤ 204) (hi : 0 < i) : Rep (v * 10 ^ (6 * s)) (i + s) (upP s i r) where
  len := upP_len hs h.len
  le := by omega
  lo := fun j => by rw [upP_get (by rw [h.len]; omega)]; split; exact h.lo _; exact Int.le_refl _
  hi := fun j => by rw [upP_get (by rw [h.len]; omega)]; split; exact h.hi _; decide
  out := fun j hj => by rw [upP_get (by rw [h.len]; omega), if_neg (by omega)]
  top := fun _ => by
    rw [upP_get (by rw [h.len]; omega), if_pos (by omega), show i + s - 1 - s = i - 1 by omega]; exact h.top hi
  val := by
    unfold upP
    rw [vb_append, vb_append, vb_repl, vb_repl, List.length_replicate, vb_take_out _ _ _ (by rw [h.len]; omega) h.out, h.val, Int.zero_add, Int.mul_zero, Int.add_zero]
    have e : (1000000 : Int) ^ s = ((10 ^ (6 * s) : Nat) : Int) := by
      rw [Nat.pow_mul, Int.natCast_pow]; rfl
    rw [e, ← Int.natCast_mul, Nat.mul_comm]
theorem up_cells (u : Int) (s i : Nat) (r : List Int) (hs : s + i ≤ 204) : ((natC u zP).toList.take (1 + s) ++ (r.take i).map (Value.int .i64) ++ (natC u zP).toList.drop (1 + s + i)).toArray = natC u (upP s i r) := by
  unfold natC upP zP
  apply Array.ext'
  simp only [List.map_cons, Nat.add_comm 1 s, List.take_succ_cons, List.map_append, List.map_replicate, List.cons_append]
  rw [show s + 1 + i = (s + i) + 1 by omega, List.drop_succ_cons, List.take_replicate, List.drop_replicate, Nat.min_eq_left (by omega)]
theorem built_natU (u : Int) : Tryd.prog.built 33 [(0, .int .i64 u)] = some (natC u zP) := by kernel_rfl
theorem ints_one (l : List Int) : ∀ v ∈ l.map (Value.int .i64), v.oneCell' = true := by
  intro v hv
  simp at hv
  obtain ⟨x, _, rfl⟩ := hv; rfl
/-- Copying, as an operation. -/
theorem run_copy1 {o : Oper} {a : Act} {w w' : World} (x y : Operand) (t : TypeId) (ho : o.op = .call { callee := .builtin .copy, args := #[x, y], argTypes := #[t, t] }) (u v r : Value) (hx : a.eval x = u) (hy : a.eval y = v) (h : (Builtin.copy_ #[t, t] o.type #[u, v]).run Tryd.prog w = .ok r w') :
    (execOp a.eval o).run Tryd.prog w = .ok (.value r) w' := by
  unfold execOp
  simp only [ho, resolve, invoke, builtin, Sem.run_bind, Sem.run_pure, Result.andThen_ok, List.map_toArray, List.map_cons, List.map_nil, hx, hy, h]
theorem ints_info : (Tryd.prog.info? 3).map (·.size) = some 1 := by kernel_rfl

set_option maxHeartbeats 4000000 in
set_option maxRecDepth 100000 in
theorem raised_any {n k : Nat} {p : List Int} (d : Nat) (w : World) (hP : Rep n k p) (hk : k + d / 6 + 4 ≤ 204) :
    Calls Tryd.prog 24 #[.agg (natC k p), .int .i64 (d : Int)] w fun e w' => ∃ (i : Nat) (r : List Int), e = .returned (.agg (natC i r)) ∧ Rep (n * 10 ^ d) i r ∧ Below w.heap.size w w' := by
  have hz := zero_nat.1
  have hp := hP.len
  have A := (NatAt.new w k p).old (.cells (natC 0 zP) 33)
  have B := NatAt.new (w.alloc (.cells (natC k p) 33)) 0 zP
  have hB : Below w.heap.size w ((w.alloc (.cells (natC k p) 33)).alloc (.cells (natC 0 zP) 33)) := ((Below.refl _ _).alloc (Nat.le_refl _) _).alloc (by simp) _
  simp only [World.size_alloc] at B
  have a0 := A.c0
  by_cases hk0 : k = 0
  · have hn : n = 0 := hP.zero_iff.1 hk0
    have HR : Hid (Rep (n * 10 ^ d) k p) := by unfold Hid; rw [hn, Nat.zero_mul]; rw [hn] at hP; exact hP
    have hzz : ((k : Int) == 0) = true := by simp [hk0]
    clear hP hn hk0 hk
    go_enter Tryd.func24, Tryd.ntmps24
    go_wp2_with (first | (refine load_nat rfl _ rfl w.heap.size rfl k p A hp ?_) | (refine store_nat rfl _ _ rfl rfl (w.heap.size + 1) k p rfl rfl 0 zP B zP_len hp ?_; intro w2 hN2 hg2 hs2))
    refine bodyPost_ret (v := .agg (natC k p)) (res_nat Tryd.results24 _ _ (w.heap.size + 1) _ _ rfl hN2 hp) rfl ⟨k, p, rfl, HR.out, ?_⟩
    exact hB.grown hg2 (by simp; omega) (by intro k hk; cases hk; omega)
  · obtain ⟨m, hm⟩ : ∃ m, m = d % 6 := ⟨_, rfl⟩
    obtain ⟨s, hs⟩ : ∃ s, s = d / 6 := ⟨_, rfl⟩
    have hm6 : m ≤ 5 := by omega
    have hrm : (d : Int).tmod 6 = (m : Int) := by rw [Int.tmod_eq_emod_of_nonneg (by omega)]; omega
    have hqt : (d : Int).tdiv 6 = (s : Int) := by rw [Int.tdiv_eq_ediv_of_nonneg (by omega)]; omega
    have hne : ((k : Int) == 0) = false := by simp; omega
    have hD : d = 6 * s + m := by omega
    have hks : k + s + 4 ≤ 204 := by omega
    have HP := hide hP
    have HD := hide hD
    have HN0 : Hid (n ≠ 0) := fun h => hk0 (hP.zero_iff.2 h)
    clear hP hk hD hm hs hk0
    go_enter Tryd.func24, Tryd.ntmps24
    go_wp2_with fail
    clear a0
    refine late_begin [5] (fun w' => NatAt w' w.heap.size k p) (by kernel_rfl) ?_
    have hS : NatAt ((w.alloc (.cells (natC k p) 33)).alloc (.cells (natC 0 zP) 33)).drew w.heap.size k p := A
    refine late_val 0 (some 11) rfl rfl (by kernel_rfl) (by kernel_rfl) (by kernel_rfl) [4, 5] (by kernel_rfl) noPanic_put rfl (.agg (natC k p)) (fun _ h => run_nat0 _ rfl w.heap.size rfl k p hp h) hS ?_
    simp only [Act.put, List.setIfInBounds_toArray, List.set_cons_zero, List.set_cons_succ]
    refine late_val 1 (some 12) rfl rfl (by kernel_rfl) (by kernel_rfl) (by kernel_rfl) [2, 3, 4, 5] (by kernel_rfl) noPanic_put rfl (.int .i64 (d : Int)) (fun _ _ => rfl) hS ?_
    simp only [Act.put, List.setIfInBounds_toArray, List.set_cons_zero, List.set_cons_succ]
    refine late_val 2 (some 13) rfl rfl (by kernel_rfl) (by kernel_rfl) (by kernel_rfl) [3, 4, 5] (by kernel_rfl) noPanic_put rfl (.int .i64 (m : Int)) (fun _ _ => by go_simp) hS ?_
    simp only [Act.put, List.setIfInBounds_toArray, List.set_cons_zero, List.set_cons_succ]
    refine late_call 3 (some 14) (by kernel_rfl) rfl rfl rfl 44 #[.int .i64 (m : Int)] (by go_simp) _ (tenTo_any m _ hm6) ?_
    rintro e w1 ⟨⟨y, rfl, hy⟩, rfl⟩
    refine ⟨_, rfl, .inr hS, ?_⟩
    simp only [Act.put, List.setIfInBounds_toArray, List.set_cons_zero, List.set_cons_succ]
    have hy0 : 0 < y := by rw [hy]; exact Int.natCast_pos.2 (Nat.pow_pos (by decide))
    have hy1 : y ≤ 100000 := by
      have h1 : 10 ^ m ≤ 10 ^ 5 := Nat.pow_le_pow_right (by decide) hm6
      have e5 : (10 : Nat) ^ 5 = 100000 := by decide
      omega
    refine late_call 4 (some 15) (by kernel_rfl) rfl rfl rfl 43 #[.agg (natC k p), .int .i64 y, .int .i64 0] (by go_simp) _ (timesWide_any y 0 _ (10 ^ m) 0 HP.out (by omega) hy rfl hy0 (by omega) (by omega) (by omega)) ?_
    rintro e w2 ⟨i, r, rfl, hR, hW2⟩
    have hS2 : NatAt w2 w.heap.size k p := NatAt.below hS hW2 (by simp; omega)
    refine ⟨_, rfl, .inr hS2, ?_⟩
    simp only [Act.put, List.setIfInBounds_toArray, List.set_cons_zero, List.set_cons_succ]
    have hrl := hR.len
    refine late_store 5 (by kernel_rfl) rfl rfl _ _ rfl rfl w.heap.size i r rfl rfl k p hS2 hp hrl ?_
    intro w3 hN3 hg3 hs3
    refine ⟨.inl ⟨5, by simp, rfl⟩, ?_⟩
    refine late_done (by kernel_rfl) ?_ _
    refine NoPanic.normal ?_
    have hB2 : Below w.heap.size w w2 := hB.drew.trans (hW2.mono (by simp; omega))
    have hB3 : Below w.heap.size w w3 := hB2.grown hg3 (by have := hB2.size; omega) (by intro k hk; cases hk; omega)
    have hs2 : w.heap.size + 1 + 1 ≤ w2.heap.size := by have := hW2.size; simpa using this
    have B3 : NatAt w3 (w.heap.size + 1) 0 zP := (NatAt.below (w := ((w.alloc (.cells (natC k p) 33)).alloc (.cells (natC 0 zP) 33)).drew) B hW2 (by simp)).grown hg3 (by simp)
    have hval : 10 ^ m * n + 0 = n * 10 ^ m := by rw [Nat.add_zero, Nat.mul_comm]
    rw [hval] at hR
    have hi0 : 0 < i := by
      rcases Nat.eq_zero_or_pos i with h | h
      · have h1 := hR.zero_iff.1 h
        have h2 : 0 < n * 10 ^ m := Nat.mul_pos (Nat.pos_of_ne_zero HN0.out) (Nat.pow_pos (by decide))
        omega
      · exact h
    have hik : i ≤ k + 1 := by
      have h1 := hR.geN hi0
      have h2 := HP.out.ltN
      have h3 : 10 ^ m < 1000000 ^ 1 := Nat.lt_of_le_of_lt (Nat.pow_le_pow_right (by decide) hm6) (by decide)
      exact mul_cnt (B := 1000000) (by decide) h2 h3 h1
    have hwi : IntKind.i64.wrap ((i : Int) + (s : Int)) = ((i + s : Nat) : Int) := by rw [IntKind.wrap_i64]; omega
    obtain ⟨u, hu⟩ : ∃ u, u = i + s := ⟨_, rfl⟩
    rw [← hu] at hwi
    have HU := hide hu
    have HR := hide hR
    have HIK : Hid (0 < i ∧ i ≤ k + 1) := ⟨hi0, hik⟩
    have c3 := hN3.c0
    have C := NatAt.new w3 0 zP
    have hs3' := hN3.lt
    have h204 : s + i ≤ 204 := by omega
    clear hS hS2 hW2 hR hval hg3 hs3 hy hu hi0 hik A B hB hB2
    have A3 : NatAt (w3.alloc (.cells (natC 0 zP) 33)) w.heap.size i r := hN3.old _
    have B4 : NatAt (w3.alloc (.cells (natC 0 zP) 33)) (w.heap.size + 1) 0 zP := B3.old _
    have hB4 : Below w.heap.size w (w3.alloc (.cells (natC 0 zP) 33)) := hB3.alloc hB3.size _
    go_wp2_with (first | (refine Great.wpList_buildTo rfl 33 #[(0, .tmp 21)] rfl _ rfl (natC u zP) (built_natU u) ?_) | (refine store_nat rfl _ _ rfl rfl w3.heap.size u zP rfl rfl 0 zP C zP_len zP_len ?_; intro w4 hN4 hg4 hs4))
    have A4 : NatAt w4 w.heap.size i r := A3.grown hg4 (by simp; omega)
    have B5 : NatAt w4 (w.heap.size + 1) 0 zP := B4.grown hg4 (by simp; have := B3.lt; omega)
    have hB5 : Below w.heap.size w w4 := hB4.grown hg4 (by simp; have := hB3.size; omega) (by intro k hk; cases hk; have := hB3.size; omega)
    have hsl : (s : Int) ≤ 204 := by omega
    have hil : (i : Int) ≤ 204 := by omega
    refine held_begin (fun w' => NatAt w' w.heap.size i r) (by kernel_rfl) ?_
    have hS : NatAt w4.drew w.heap.size i r := A4
    refine held_val 0 (some 23) rfl rfl (by kernel_rfl) (by kernel_rfl) (by kernel_rfl) noPanic_put rfl (.pointer (some ⟨w3.heap.size, 1, none⟩)) (fun _ => by go_simp) hS ?_
    simp only [Act.put, List.setIfInBounds_toArray, List.set_cons_zero, List.set_cons_succ]
    refine held_val 1 (some 24) rfl rfl (by kernel_rfl) (by kernel_rfl) (by kernel_rfl) noPanic_put rfl (.int .i64 (s : Int)) (fun _ => by go_simp) hS ?_
    simp only [Act.put, List.setIfInBounds_toArray, List.set_cons_zero, List.set_cons_succ]
    refine held_val 2 (some 25) rfl rfl (by kernel_rfl) (by kernel_rfl) (by kernel_rfl) noPanic_put rfl (.slice (some ⟨w3.heap.size, 1 + s, none⟩) (204 - s) (204 - s)) (fun _ => by go_simp; omega) hS ?_
    simp only [Act.put, List.setIfInBounds_toArray, List.set_cons_zero, List.set_cons_succ]
    refine held_val 3 (some 26) rfl rfl (by kernel_rfl) (by kernel_rfl) (by kernel_rfl) noPanic_put rfl (.pointer (some ⟨w.heap.size, 1, none⟩)) (fun _ => by go_simp) hS ?_
    simp only [Act.put, List.setIfInBounds_toArray, List.set_cons_zero, List.set_cons_succ]
    refine held_val 4 (some 27) rfl rfl (by kernel_rfl) (by kernel_rfl) (by kernel_rfl) noPanic_put rfl (.pointer (some ⟨w.heap.size, 0, none⟩)) (fun _ => by go_simp) hS ?_
    simp only [Act.put, List.setIfInBounds_toArray, List.set_cons_zero, List.set_cons_succ]
    refine held_valS 5 (some 28) rfl rfl (by kernel_rfl) (by kernel_rfl) (by kernel_rfl) noPanic_put rfl (.int .i64 (i : Int)) (fun _ h => BL.run_cell1 (.tmp 27) 3 rfl ⟨w.heap.size, 0, none⟩ rfl _ Tryd.underlying3 rfl h.c0) hS ?_
    simp only [Act.put, List.setIfInBounds_toArray, List.set_cons_zero, List.set_cons_succ]
    refine held_val 6 (some 29) rfl rfl (by kernel_rfl) (by kernel_rfl) (by kernel_rfl) noPanic_put rfl (.slice (some ⟨w.heap.size, 1, none⟩) i 204) (fun _ => by go_simp) hS ?_
    simp only [Act.put, List.setIfInBounds_toArray, List.set_cons_zero, List.set_cons_succ]
    have hcp := run_copy_row Tryd.prog w4.drew 56 56 3 3 w3.heap.size (1 + s) (204 - s) (204 - s) ⟨w.heap.size, 1, none⟩ i 204 (natC u zP) 33 ((r.take i).map (Value.int .i64)) Tryd.underlying56 ints_info hN4 (by rw [List.length_map, List.length_take, hrl]; show min i 204 = min i (204 - s); omega) (fun j v hv => by
      rw [List.getElem?_map] at hv
      have hj : j < i := by
        rcases Nat.lt_or_ge j i with h | h
        · exact h
        · rw [List.getElem?_eq_none (by simp; omega)] at hv; cases hv
      rw [List.getElem?_take_of_lt hj, List.getElem?_eq_getElem (by omega)] at hv
      have h2 := hS.cs j (by omega)
      have e : (⟨w.heap.size, 1, none⟩ : Addr).add j = ⟨w.heap.size, 1 + j, none⟩ := by unfold Addr.add; split <;> simp_all
      rw [e, h2, ← hv]; simp [List.getD, show j < r.length by omega]) (by simp [natC_size, zP_len]; omega) (ints_one _)
    have hml : ((r.take i).map (Value.int .i64)).length = i := by rw [List.length_map, List.length_take, hrl]; omega
    rw [hml, up_cells u s i r h204] at hcp
    have hN6 : NatAt (w4.drew.setRow w3.heap.size (natC u (upP s i r))) w3.heap.size u (upP s i r) := setRow_heap w4.drew w3.heap.size _ _ _ _ hN4
    have hg6 : w4.grownBy (w4.drew.setRow w3.heap.size (natC u (upP s i r))) (some w3.heap.size) := ⟨rfl, rfl, rfl, by simp, fun k _ hne => setRow_other w4.drew w3.heap.size k _ (by intro e; exact hne (by rw [e]))⟩
    generalize w4.drew.setRow w3.heap.size (natC u (upP s i r)) = w6 at hcp hN6 hg6
    refine BL.held_ready 7 (some 30) (by kernel_rfl) rfl rfl rfl _ w6 (run_copy1 (.tmp 25) (.tmp 29) 56 rfl _ _ _ rfl rfl hcp) (A4.grown hg6 (by simp; omega)) ?_
    simp only [Act.put, List.setIfInBounds_toArray, List.set_cons_zero, List.set_cons_succ]
    refine wpAnyH_done (by kernel_rfl) ?_ _
    refine NoPanic.normal ?_
    have hul : (upP s i r).length = 204 := upP_len h204 hrl
    have B7 : NatAt w6 (w.heap.size + 1) 0 zP := B5.grown hg6 (by simp; have := B3.lt; omega)
    have hB7 : Below w.heap.size w w6 := hB5.grown hg6 (by have := hB5.size; omega) (by intro k hk; cases hk; have := hB3.size; omega)
    go_wp2_with (first | (refine load_nat rfl _ rfl w3.heap.size rfl u (upP s i r) hN6 hul ?_) | (refine store_nat rfl _ _ rfl rfl (w.heap.size + 1) u (upP s i r) rfl rfl 0 zP B7 zP_len hul ?_; intro w8 hN8 hg8 hs8))
    refine bodyPost_ret (v := .agg (natC u (upP s i r))) (res_nat Tryd.results24 _ _ (w.heap.size + 1) _ _ rfl hN8 hul) rfl ⟨u, upP s i r, rfl, ?_, hB7.grown hg8 (by have := hB7.size; omega) (by intro k hk; cases hk; omega)⟩
    have hf := HR.out.up s h204 HIK.out.1
    rw [← HU.out, Nat.mul_assoc, ← Nat.pow_add, Nat.add_comm m, ← HD.out] at hf
    exact hf
end Go.Proofs.YtoiegaggekgmjaaDoor

/-
  What impl.readDecimal answers.
-/
namespace Go.Proofs.YtoiegaggekgmjaaDoor
open Go.RowKit
set_option linter.unusedVariables false

/-- What it answers. -/
def DecAns (l : List UInt8) (e : Ending) : Prop := ∃ (i j : Nat) (p q : List Int) (b : Bool), e = .returned (.tuple #[.agg (natC i p), .agg (natC j q), .bool b]) ∧ p.length = 204 ∧ q.length = 204 ∧
  ((decI l = none ∧ b = false) ∨ (∃ (a c : List UInt8) (x : Int), decI l = some (a, c, x) ∧ b = true ∧ Rep (topR (a ++ c) (x - (c.length : Int))) i p ∧ Rep (botR (x - (c.length : Int))) j q ∧ i ≤ 100 ∧ j ≤ 100 ∧ topR (a ++ c) (x - (c.length : Int)) < 10 ^ 180))
theorem DecAns.no {l : List UInt8} (h : decI l = none) : DecAns l (.returned (.tuple #[.agg (natC 0 zP), .agg (natC 0 zP), .bool false])) := ⟨0, 0, zP, zP, false, rfl, zP_len, zP_len, .inl ⟨h, rfl⟩⟩
/-- What is known ahead of the power: the digits d, what is left r, and how many stand behind the point. -/
def MidR (l : List UInt8) (d r : ByteArray) (n : Nat) : Prop := ∃ c : List UInt8, d.data.toList = l.takeWhile isDig ++ c ∧ n = c.length ∧ c.all isDig = true ∧ c.length ≤ 40 ∧ lenB (l.takeWhile isDig) = true ∧ decI l = (match tenP r.data.toList with | none => none | some x => some (l.takeWhile isDig, c, x))
theorem len_out {l : List UInt8} (h : lenB l = true) : 1 ≤ l.length ∧ l.length ≤ 40 := by
  unfold lenB at h
  simpa using h
theorem ten_180 {x : Nat} (h : x < 10 ^ 180) (k : Nat) (hk : 180 ≤ k) : x < 10 ^ k := Nat.lt_of_lt_of_le h (Nat.pow_le_pow_right (by decide) hk)
theorem MidR.digs {l : List UInt8} {d r : ByteArray} {n : Nat} (h : MidR l d r n) : rdOk 10 d = true ∧ rval 10 d.data.toList < 10 ^ 80 ∧ n ≤ 40 := by
  obtain ⟨c, h1, h2, h3, h4, h5, _⟩ := h
  have ha := len_out h5
  have hl : d.data.toList.length = d.size := by simp
  have hs : d.size = (l.takeWhile isDig).length + c.length := by rw [← hl, h1, List.length_append]
  have hr : rdigs 10 d.data.toList = true := digs_rd (by rw [h1, List.all_append, take_digs, h3]; rfl)
  have hv : rval 10 d.data.toList < 10 ^ 80 := Nat.lt_of_lt_of_le (rval_lt 10 _ hr) (Nat.pow_le_pow_right (by decide) (by omega))
  refine ⟨?_, hv, by omega⟩
  unfold rdOk
  rw [hr, decide_eq_true (p := 1 ≤ d.size) (by omega), decide_eq_true (p := d.size ≤ 2000) (by omega), decide_eq_true (ten_180 (Nat.lt_of_lt_of_le hv (Nat.pow_le_pow_right (by decide) (by omega))) 1200 (by omega))]
  rfl
theorem ten_mulC {x : Nat} (i j k : Nat) {n : Nat} (h : x < 10 ^ i) (hn : n < j) (hk : i + j ≤ k) : x * 10 ^ n < 10 ^ k := by
  have h1 : 10 ^ i * 10 ^ n ≤ 10 ^ k := by rw [← Nat.pow_add]; exact Nat.pow_le_pow_right (by decide) (by omega)
  exact Nat.lt_of_lt_of_le (Nat.mul_lt_mul_of_pos_right h (Nat.pow_pos (by decide))) h1
theorem MidR.ans {l : List UInt8} {d r : ByteArray} {n : Nat} {v m : Int} {i j : Nat} {p q : List Int} (h : MidR l d r n) (ht : tenP r.data.toList = some v) (hm : m = v - (n : Int)) (hb : m ≤ 99) (hb0 : -150 < m) (hP : Rep (rval 10 d.data.toList * 10 ^ m.toNat) i p) (hQ : Rep (1 * 10 ^ (-m).toNat) j q) :
    DecAns l (.returned (.tuple #[.agg (natC i p), .agg (natC j q), .bool true])) := by
  have hd := h.digs
  obtain ⟨c, h1, h2, h3, h4, h5, h6⟩ := h
  rw [ht] at h6
  have e : v - (c.length : Int) = m := by omega
  have ht : rval 10 d.data.toList * 10 ^ m.toNat < 10 ^ 180 := ten_mulC 80 100 180 hd.2.1 (by omega) (by omega)
  have hq : 1 * 10 ^ (-m).toNat < 10 ^ 180 := ten_mulC 1 150 180 (by decide) (by omega) (by omega)
  refine ⟨i, j, p, q, true, rfl, hP.len, hQ.len, .inr ⟨_, _, _, h6, rfl, ?_, ?_, hP.fits.2 (ten_180 ht 600 (by omega)), hQ.fits.2 (ten_180 hq 600 (by omega)), ?_⟩⟩
  · unfold topR; rw [e, ← h1]; exact hP
  · unfold botR; rw [e]; exact hQ
  · unfold topR; rw [e, ← h1]; exact ht

set_option maxHeartbeats 8000000 in
set_option maxRecDepth 100000 in
theorem readDecimal_any (s : ByteArray) (w : World) (hs : s.size ≤ 1048576) (hT : Tab w.heap.size w) (hE : EV w) :
    Calls Tryd.prog 10 #[.string s] w fun e w' => DecAns s.data.toList e ∧ Below w.heap.size w w' := by
  have hz := zero_nat.1
  have A := (NatAt.new w 0 zP).old (.cells (natC 0 zP) 33)
  have C := NatAt.new (w.alloc (.cells (natC 0 zP) 33)) 0 zP
  have hB : Below w.heap.size w ((w.alloc (.cells (natC 0 zP) 33)).alloc (.cells (natC 0 zP) 33)) := ((Below.refl _ _).alloc (Nat.le_refl _) _).alloc (by simp) _
  have hws : ((w.alloc (.cells (natC 0 zP) 33)).alloc (.cells (natC 0 zP) 33)).heap.size = w.heap.size + 1 + 1 := by simp
  simp only [World.size_alloc] at C
  have HTE := hideT' (And.intro hT hE)
  clear hT hE
  go_enter Tryd.func10, Tryd.ntmps10
  generalize hw0 : (w.alloc (.cells (natC 0 zP) 33)).alloc (.cells (natC 0 zP) 33) = w0 at A C hB hws
  go_wp2_with fail
  clear hw0
  refine (cutDigits_any s _ (by unfold maxLen; omega)).mono ?_
  rintro e w1 ⟨⟨t, u, rfl, ht, hu⟩, hW1⟩
  have hs1 := hW1.size
  have A1 := A.below hW1 (by omega)
  have C1 := C.below hW1 (by omega)
  have hB1 : Below w.heap.size w w1 := hB.trans (hW1.mono (by omega))
  have hl1 : w.heap.size + 1 + 1 ≤ w1.heap.size := by omega
  have hus : u.size ≤ 1048576 := by
    have h1 : u.data.toList.length = u.size := by simp
    have h2 : s.data.toList.length = s.size := by simp
    have h3 : (s.data.toList.takeWhile isDig ++ s.data.toList.dropWhile isDig).length = s.data.toList.length := by rw [List.takeWhile_append_dropWhile]
    rw [List.length_append] at h3
    rw [hu] at h1
    omega
  have HTU := hideT' (And.intro ht hu)
  clear ht hu hW1 A C hB hws hs1
  cases hlb : lenB (s.data.toList.takeWhile isDig) with
  | false =>
    have HA := hideT' (DecAns.no (l := s.data.toList) (by unfold decI; rw [hlb]; rfl))
    clear hlb
    go_wp2_with (first | (refine store_nat rfl (.tmp 2) _ rfl rfl w.heap.size 0 zP rfl rfl 0 zP A1 zP_len zP_len ?_; intro w8 hN8 hg8 hs8) | (refine store_nat rfl (.tmp 3) _ rfl rfl (w.heap.size + 1) 0 zP rfl rfl 0 zP (NatAt.grown C1 hg8 (by simp)) zP_len zP_len ?_; intro w9 hN9 hg9 hs9))
    have hB8 : Below w.heap.size w w8 := hB1.grown hg8 hB1.size (by intro k hk; cases hk; omega)
    (try simp only [Exit.inBlock, Exit.then]); exact bodyPost_ret (res_nat2_tmp Tryd.results10 _ _ w.heap.size (w.heap.size + 1) _ _ _ _ _ rfl rfl rfl (hN8.grown hg9 (by simp)) hN9 zP_len zP_len) rfl ⟨HA.out, hB8.grown hg9 hB8.size (by intro k hk; cases hk; omega)⟩
  | true =>
    have hts : t.size ≤ 40 := by
      have h1 : t.data.toList.length = t.size := by simp
      rw [HTU.out.1] at h1
      have := len_out hlb
      omega
    have HLB := hideT' hlb
    clear hlb
    go_wp2_with fail
    refine (cutPoint_any u _ (by unfold maxLen; omega)).mono ?_
    rintro e w2 ⟨x, rfl, hx, hw2⟩
    obtain rfl := hw2.symm
    obtain ⟨f, hf⟩ : ∃ f, frontB 46 u.data.toList = f := ⟨_, rfl⟩
    rw [hf]
    have hxs : x.size ≤ 1048576 := by
      have h1 : x.data.toList.length = x.size := by simp
      have h2 : u.data.toList.length = u.size := by simp
      rw [hx] at h1
      unfold backB at h1
      split at h1
      · rw [List.length_drop] at h1; omega
      · omega
    have HX := hideT' (And.intro hx hf)
    clear hx hf
    go_upto_if 31 with fail
    go_cut [5, 0, 7] (fun x0 y0 z0 wx => ∃ (d r : ByteArray) (n : Nat) (y : Int), x0 = .string d ∧ y0 = .string r ∧ z0 = .int .i64 y ∧ y = -(n : Int) ∧ -40 ≤ y ∧ y ≤ 0 ∧ Hid (MidR s.data.toList d r n) ∧ d.size ≤ 80 ∧ r.size ≤ 1048576 ∧ Hid (NatAt wx w.heap.size 0 zP ∧ NatAt wx (w.heap.size + 1) 0 zP ∧ Below w.heap.size w wx ∧ w.heap.size + 1 + 1 ≤ wx.heap.size))
    case first =>
      cases f with
      | false =>
        have HM : Hid (MidR s.data.toList t u 0) := by
          refine ⟨[], by rw [List.append_nil]; exact HTU.out.1, rfl, rfl, by simp, HLB.out, ?_⟩
          unfold decI
          rw [if_pos HLB.out, ← HTU.out.2, if_neg (front_false HX.out.2)]
          cases tenP u.data.toList <;> rfl
        go_wp2
        go_meet
        case rel => exact ⟨t, u, 0, 0, rfl, rfl, rfl, rfl, by omega, by omega, HM, by omega, hus, ⟨A1, C1, hB1, hl1⟩⟩
      | true =>
        have HX2 : Hid (x.data.toList = (s.data.toList.dropWhile isDig).drop 1) := by
          unfold Hid; rw [HX.out.1]; unfold backB; rw [HX.out.2, if_pos rfl, HTU.out.2]
        go_wp2_with fail
        refine (cutDigits_any x _ (by unfold maxLen; omega)).mono ?_
        rintro e w2 ⟨⟨b, r, rfl, hb, hr⟩, hW2⟩
        have A2 := A1.below hW2 (by omega)
        have C2 := C1.below hW2 (by omega)
        have hB2 : Below w.heap.size w w2 := hB1.trans (hW2.mono (by omega))
        have hl2 : w.heap.size + 1 + 1 ≤ w2.heap.size := Nat.le_trans hl1 hW2.size
        have hrs : r.size ≤ 1048576 := by
          have h1 : r.data.toList.length = r.size := by simp
          have h2 : x.data.toList.length = x.size := by simp
          have h3 : (x.data.toList.takeWhile isDig ++ x.data.toList.dropWhile isDig).length = x.data.toList.length := by rw [List.takeWhile_append_dropWhile]
          rw [List.length_append] at h3
          rw [hr] at h1
          omega
        have HBR := hideT' (And.intro hb hr)
        clear hb hr hW2 A1 C1 hB1 hl1
        cases hlc : lenB (x.data.toList.takeWhile isDig) with
        | false =>
          have HA := hideT' (DecAns.no (l := s.data.toList) (by
            unfold decI
            rw [if_pos HLB.out, if_pos (by rw [← HTU.out.2]; exact front_true HX.out.2), ← HX2.out, if_neg (by rw [hlc]; decide)]))
          clear hlc
          go_wp2_with (first | (refine store_nat rfl (.tmp 2) _ rfl rfl w.heap.size 0 zP rfl rfl 0 zP A2 zP_len zP_len ?_; intro w8 hN8 hg8 hs8) | (refine store_nat rfl (.tmp 3) _ rfl rfl (w.heap.size + 1) 0 zP rfl rfl 0 zP (NatAt.grown C2 hg8 (by simp)) zP_len zP_len ?_; intro w9 hN9 hg9 hs9))
          have hB8 : Below w.heap.size w w8 := hB2.grown hg8 hB2.size (by intro k hk; cases hk; omega)
          (try simp only [Exit.inBlock, Exit.then]); exact bodyPost_ret (res_nat2_tmp Tryd.results10 _ _ w.heap.size (w.heap.size + 1) _ _ _ _ _ rfl rfl rfl (hN8.grown hg9 (by simp)) hN9 zP_len zP_len) rfl ⟨HA.out, hB8.grown hg9 hB8.size (by intro k hk; cases hk; omega)⟩
        | true =>
          have hbl := len_out hlc
          have hbs : b.data.toList.length = b.size := by simp
          have hb40 : b.size ≤ 40 := by rw [← hbs, HBR.out.1]; exact hbl.2
          have htb : (t ++ b).data.toList = t.data.toList ++ b.data.toList := by simp
          have HM : Hid (MidR s.data.toList (t ++ b) r b.size) := by
            refine ⟨b.data.toList, by rw [htb, HTU.out.1], hbs.symm, by rw [HBR.out.1]; exact take_digs _, by omega, HLB.out, ?_⟩
            unfold decI
            rw [if_pos HLB.out, if_pos (by rw [← HTU.out.2]; exact front_true HX.out.2), ← HX2.out, if_pos hlc, ← HBR.out.2, ← HBR.out.1]
            cases tenP r.data.toList <;> rfl
          have hsum : (t.size : Int) + (b.size : Int) ≤ 9223372036854775807 := by omega
          have hwr : IntKind.i64.wrap (-(b.size : Int)) = -(b.size : Int) := by rw [IntKind.wrap_i64]; omega
          have htbs : (t ++ b).size ≤ 80 := by rw [ByteArray.size_append]; omega
          have HTB := hideT' htbs
          clear hlc hbl hbs htb htbs
          go_wp2
          go_meet
          case rel => exact ⟨t ++ b, r, b.size, -(b.size : Int), rfl, rfl, rfl, rfl, by omega, by omega, HM, HTB.out, hrs, ⟨A2, C2, hB2, hl2⟩⟩
    case rest =>
      obtain ⟨d, r, n, y, rfl, rfl, rfl, hy, hy0, hy1, HM, hds, hrs, HW⟩ := hcut
      obtain ⟨A2, C2, hB2, hl2⟩ := HW.out
      have HY := hideT' hy
      clear HW hy A1 C1 hB1 hl1 HX
      go_wp2_with fail
      refine (readTenPower_any r _ hrs (Tab.up (Tab.on HTE.out.1 hB2) hB2.size) (HTE.out.2.below hB2)).mono ?_
      rintro e w3 ⟨⟨v, b, rfl, hv⟩, hW3⟩
      have A3 := A2.below hW3 (by omega)
      have C3 := C2.below hW3 (by omega)
      have hB3 : Below w.heap.size w w3 := hB2.trans (hW3.mono (by omega))
      have hl3 : w.heap.size + 1 + 1 ≤ w3.heap.size := Nat.le_trans hl2 hW3.size
      clear A2 C2 hB2 hl2 hW3
      rcases hv with ⟨hv, rfl, hv0, hv1⟩ | ⟨hv, rfl⟩
      · have HV := hideT' hv
        have hdg := HM.out.digs
        have HDG := hideT' hdg
        clear hv hdg
        go_wp2_with fail
        refine (readDigits_any d 10 10 _ (by unfold maxLen; omega) rfl (by omega) (by omega)).mono ?_
        rintro e w4 ⟨i4, q4, rfl, hq4, hR4, hW4⟩
        have HR4 := hideT' (hR4 HDG.out.1)
        have A4 := A3.below hW4 (by omega)
        have C4 := C3.below hW4 (by omega)
        have hB4 : Below w.heap.size w w4 := hB3.trans (hW4.mono (by omega))
        have hl4 : w.heap.size + 1 + 1 ≤ w4.heap.size := Nat.le_trans hl3 hW4.size
        have D4 := NatAt.new w4 0 zP
        have hi4 : i4 ≤ 100 := HR4.out.fits.2 (ten_180 (Nat.lt_of_lt_of_le HDG.out.2.1 (Nat.pow_le_pow_right (by decide) (by omega))) 600 (by omega))
        clear A3 C3 hB3 hl3 hW4 hR4
        obtain ⟨m, hm⟩ : ∃ m, m = y + v := ⟨_, rfl⟩
        have hwm : IntKind.i64.wrap (y + v) = m := by rw [IntKind.wrap_i64]; omega
        have hm1 : m ≤ 99 := by omega
        have hm0 : -150 < m := by omega
        have HMM : Hid (m = v - (n : Int)) := by unfold Hid; have := HY.out; omega
        clear hm
        go_upto_region 16 with (refine store_nat rfl (.tmp 14) _ rfl rfl w4.heap.size i4 q4 rfl rfl 0 zP D4 zP_len hq4 ?_; intro w5 hN5 hg5 hs5)
        have A5 : NatAt w5 w.heap.size 0 zP := (A4.old _).grown hg5 (by simp; omega)
        have C5 : NatAt w5 (w.heap.size + 1) 0 zP := (C4.old _).grown hg5 (by simp; omega)
        have hB5 : Below w.heap.size w w5 := (hB4.alloc hB4.size _).grown hg5 (by simp; have := hB4.size; omega) (by intro k hk; cases hk; have := hB4.size; omega)
        have hs5' : w4.heap.size + 1 ≤ w5.heap.size := by rw [hs5]; simp
        clear A4 C4 hB4 D4 hg5 hs5
        by_cases hpos : (0 : Int) < m
        · obtain ⟨M, hM⟩ : ∃ M : Nat, m = (M : Int) := ⟨m.toNat, by omega⟩
          subst hM
          go_wp2_with (refine load_nat rfl (.tmp 14) rfl w4.heap.size rfl i4 q4 hN5 hq4 ?_)
          refine (raised_any M w5 HR4.out (by omega)).mono ?_
          rintro e w6 ⟨i6, r6, rfl, hR6, hW6⟩
          have A6 := A5.below hW6 (by omega)
          have C6 := C5.below hW6 (by omega)
          have hB6 : Below w.heap.size w w6 := hB5.trans (hW6.mono (by omega))
          have hl6 : w.heap.size + 1 + 1 ≤ w6.heap.size := Nat.le_trans (by omega) hW6.size
          have l6 := hR6.len
          have HR6 := hideT' hR6
          clear hW6 hR6 A5 C5 hB5
          go_wp2_with fail
          refine (natOf_any 1 1 w6 rfl (by omega) (by omega)).mono ?_
          rintro e w7 ⟨i7, r7, rfl, hR7, hW7⟩
          have A7 := A6.below hW7 (by omega)
          have C7 := C6.below hW7 (by omega)
          have hB7 : Below w.heap.size w w7 := hB6.trans (hW7.mono (by omega))
          have l7 := hR7.len
          have HA := hideT' (HM.out.ans HV.out HMM.out hm1 hm0 (i := i6) (p := r6) (j := i7) (q := r7) (by rw [show (M : Int).toNat = M by omega]; exact HR6.out) (by rw [show (-(M : Int)).toNat = 0 by omega, Nat.pow_zero, Nat.mul_one]; exact hR7))
          clear hW7 hR7 A6 C6 hB6
          go_wp2_with (first | (refine store_nat rfl (.tmp 2) _ rfl rfl w.heap.size i6 r6 rfl rfl 0 zP A7 zP_len l6 ?_; intro w8 hN8 hg8 hs8) | (refine store_nat rfl (.tmp 3) _ rfl rfl (w.heap.size + 1) i7 r7 rfl rfl 0 zP (NatAt.grown C7 hg8 (by simp)) zP_len l7 ?_; intro w9 hN9 hg9 hs9))
          have hB8 : Below w.heap.size w w8 := hB7.grown hg8 hB7.size (by intro k hk; cases hk; omega)
          exact bodyPost_ret (res_nat2_tmp Tryd.results10 _ _ w.heap.size (w.heap.size + 1) _ _ _ _ _ rfl rfl rfl (hN8.grown hg9 (by simp)) hN9 l6 l7) rfl ⟨HA.out, hB8.grown hg9 hB8.size (by intro k hk; cases hk; omega)⟩
        · obtain ⟨M, hM⟩ : ∃ M : Nat, m = -(M : Int) := ⟨(-m).toNat, by omega⟩
          subst hM
          have hwn : IntKind.i64.wrap (M : Int) = (M : Int) := by rw [IntKind.wrap_i64]; omega
          go_wp2_with fail
          refine held_begin (fun w' => NatAt w' w4.heap.size i4 q4) (by kernel_rfl) ?_
          have hS : NatAt w5.drew w4.heap.size i4 q4 := hN5
          refine held_load 0 (some 72) rfl rfl (by kernel_rfl) (by kernel_rfl) (by kernel_rfl) noPanic_put rfl _ rfl (w4.heap.size) rfl i4 q4 (fun _ h => h) hq4 hS ?_
          simp only [Act.put, List.setIfInBounds_toArray, List.set_cons_zero, List.set_cons_succ]
          refine held_val 2 (some 74) rfl rfl (by kernel_rfl) (by kernel_rfl) (by kernel_rfl) noPanic_put rfl (.int .i64 (-(M : Int))) (fun _ => by go_simp) hS ?_
          simp only [Act.put, List.setIfInBounds_toArray, List.set_cons_zero, List.set_cons_succ]
          refine held_val 3 (some 75) rfl rfl (by kernel_rfl) (by kernel_rfl) (by kernel_rfl) noPanic_put rfl (.int .i64 (M : Int)) (fun _ => by go_simp) hS ?_
          simp only [Act.put, List.setIfInBounds_toArray, List.set_cons_zero, List.set_cons_succ]
          refine held_call 1 (some 73) (by kernel_rfl) rfl rfl rfl 25 #[.int .i64 1] (by go_simp) _ (natOf_any 1 1 w5.drew rfl (by omega) (by omega)) ?_
          rintro e w6 ⟨i6, r6, rfl, hR6, hW6⟩
          have hs6 : w5.heap.size ≤ w6.heap.size := hW6.size
          have hS6 : NatAt w6 w4.heap.size i4 q4 := hS.below hW6 (by show _ < w5.heap.size; omega)
          have A6 : NatAt w6 w.heap.size 0 zP := NatAt.below (w := w5.drew) A5 hW6 (by show _ < w5.heap.size; omega)
          have C6 : NatAt w6 (w.heap.size + 1) 0 zP := NatAt.below (w := w5.drew) C5 hW6 (by show _ < w5.heap.size; omega)
          have hB6 : Below w.heap.size w w6 := hB5.drew.trans (hW6.mono (by show _ ≤ w5.heap.size; omega))
          have hi6 : i6 ≤ 100 := hR6.fits.2 (ten_180 (x := 1) (by decide) 600 (by omega))
          refine ⟨_, rfl, hS6, ?_⟩
          simp only [Act.put, List.setIfInBounds_toArray, List.set_cons_zero, List.set_cons_succ]
          refine held_call 4 (some 76) (by kernel_rfl) rfl rfl rfl 24 #[.agg (natC i6 r6), .int .i64 (M : Int)] (by go_simp) _ (raised_any M w6 hR6 (by omega)) ?_
          rintro e w7 ⟨i7, r7, rfl, hR7, hW7⟩
          have hs7 : w6.heap.size ≤ w7.heap.size := hW7.size
          have hS7 : NatAt w7 w4.heap.size i4 q4 := hS6.below hW7 (by omega)
          have A7 : NatAt w7 w.heap.size 0 zP := A6.below hW7 (by omega)
          have C7 : NatAt w7 (w.heap.size + 1) 0 zP := C6.below hW7 (by omega)
          have hB7 : Below w.heap.size w w7 := hB6.trans (hW7.mono (by omega))
          have l7 := hR7.len
          refine ⟨_, rfl, hS7, ?_⟩
          simp only [Act.put, List.setIfInBounds_toArray, List.set_cons_zero, List.set_cons_succ]
          refine held_store 5 (by kernel_rfl) rfl rfl _ _ rfl rfl w.heap.size i4 q4 rfl rfl 0 zP A7 zP_len hq4 ?_
          intro w8 hN8 hg8 hs8
          have hS8 : NatAt w8 w4.heap.size i4 q4 := hS7.grown hg8 (by simp; omega)
          refine ⟨hS8, ?_⟩
          refine held_store 6 (by kernel_rfl) rfl rfl _ _ rfl rfl (w.heap.size + 1) i7 r7 rfl rfl 0 zP (C7.grown hg8 (by simp)) zP_len l7 ?_
          intro w9 hN9 hg9 hs9
          have hS9 : NatAt w9 w4.heap.size i4 q4 := hS8.grown hg9 (by simp; omega)
          refine ⟨hS9, ?_⟩
          refine held_assign 7 (some 4) (by kernel_rfl) rfl rfl _ rfl rfl (.bool true) rfl hS9 ?_
          simp only [Act.put, List.setIfInBounds_toArray, List.set_cons_zero, List.set_cons_succ]
          refine wpAnyH_done (by kernel_rfl) ?_ _
          refine NoPanic.normal ?_
          have HA := hideT' (HM.out.ans HV.out HMM.out hm1 hm0 (i := i4) (p := q4) (j := i7) (q := r7) (by rw [show (-(M : Int)).toNat = 0 by omega, Nat.pow_zero, Nat.mul_one]; exact HR4.out) (by rw [show (- -(M : Int)).toNat = M by omega]; exact hR7))
          have hB8 : Below w.heap.size w w8 := hB7.grown hg8 hB7.size (by intro k hk; cases hk; omega)
          go_wp2
          exact bodyPost_ret (res_nat2_tmp Tryd.results10 _ _ w.heap.size (w.heap.size + 1) _ _ _ _ _ rfl rfl rfl (hN8.grown hg9 (by simp)) hN9 hq4 l7) rfl ⟨HA.out, hB8.grown hg9 hB8.size (by intro k hk; cases hk; omega)⟩
      · have HA := hideT' (DecAns.no (l := s.data.toList) (by
          obtain ⟨c, _, _, _, _, _, h6⟩ := HM.out
          rw [h6, hv]))
        clear hv
        go_wp2_with (first | (refine store_nat rfl (.tmp 2) _ rfl rfl w.heap.size 0 zP rfl rfl 0 zP A3 zP_len zP_len ?_; intro w8 hN8 hg8 hs8) | (refine store_nat rfl (.tmp 3) _ rfl rfl (w.heap.size + 1) 0 zP rfl rfl 0 zP (NatAt.grown C3 hg8 (by simp)) zP_len zP_len ?_; intro w9 hN9 hg9 hs9))
        have hB8 : Below w.heap.size w w8 := hB3.grown hg8 hB3.size (by intro k hk; cases hk; omega)
        (try simp only [Exit.inBlock, Exit.then]); exact bodyPost_ret (res_nat2_tmp Tryd.results10 _ _ w.heap.size (w.heap.size + 1) _ _ _ _ _ rfl rfl rfl (hN8.grown hg9 (by simp)) hN9 zP_len zP_len) rfl ⟨HA.out, hB8.grown hg9 hB8.size (by intro k hk; cases hk; omega)⟩
end Go.Proofs.YtoiegaggekgmjaaDoor

/-
  What impl.ReadReal answers.
-/
namespace Go.Proofs.YtoiegaggekgmjaaDoor
open Go.RowKit
set_option linter.unusedVariables false

theorem wpList_idD {ops : Array Oper} {rest : List Oper} {a : Act} {w : World} {Q : Exit → Act → World → Prop} (h : wpList Tryd.prog ops Q rest a w) : wpList Tryd.prog ops Q rest a w := h
theorem inf_of : manOf 1360087087465889792 = 0 ∧ expOf 1360087087465889792 = 151 := by
  constructor
  · unfold manOf; rw [if_pos (by omega)]
  · unfold expOf; rw [if_pos (by omega)]
theorem ten_twoD {x j : Nat} (h : x < 10 ^ 180) (hj : 600 ≤ j) : x < 2 ^ j := Nat.lt_of_lt_of_le h (ten_two 60 j (by omega))

set_option maxHeartbeats 8000000 in
set_option maxRecDepth 100000 in
theorem implReadReal_any (s : ByteArray) (w : World) (hs : s.size ≤ 1048576) (hT : Tab w.heap.size w) (hE : EV w) :
    Calls Tryd.prog 5 #[.string s] w fun e w' => ReadAns s.data.toList e ∧ Below w.heap.size w w' := by
  have hz := zero_real.1
  have hz2 := zero_nat.1
  have A := RowAt.new w 23 #[.bool false, .int .i64 0, .int .i64 0]
  have hB : Below w.heap.size w (w.alloc (.cells #[.bool false, .int .i64 0, .int .i64 0] 23)) := (Below.refl _ _).alloc (Nat.le_refl _) _
  have hws : (w.alloc (.cells #[.bool false, .int .i64 0, .int .i64 0] 23)).heap.size = w.heap.size + 1 := by simp
  have HTE := hideT' (And.intro hT hE)
  clear hT hE
  go_enter Tryd.func5, Tryd.ntmps5
  generalize hw0 : w.alloc (.cells #[.bool false, .int .i64 0, .int .i64 0] 23) = w0 at A hB hws
  go_wp2_with fail
  clear hw0
  refine (cutPrefix_any s _ (by unfold maxLen; omega)).mono ?_
  rintro e w1 ⟨t, rfl, ht, hw1⟩
  obtain rfl := hw1.symm
  have hts : t.size ≤ 1048576 := by
    have h1 : t.data.toList.length = t.size := by simp
    have h2 : s.data.toList.length = s.size := by simp
    rw [ht] at h1
    unfold bodyN at h1
    split at h1
    · rw [List.length_tail] at h1; omega
    · omega
  have HT := hideT' ht
  clear ht
  obtain ⟨ng, hng⟩ : ∃ ng, ng = negN s.data.toList := ⟨_, rfl⟩
  rw [← hng]
  have HNG := hideT' hng
  clear hng
  by_cases hinf : t.data.toList = [105, 110, 102]
  · have hi' : (t.toList == [105, 110, 102]) = true := str_eq hinf
    have HA : Hid (ReadAns s.data.toList (.returned (.tuple #[.agg #[.bool ng, .int .i64 ((manOf 1360087087465889792 : Nat) : Int), .int .i64 (expOf 1360087087465889792)], .bool true]))) := .inl ⟨by rw [← HT.out]; exact hinf, by rw [HNG.out, inf_of.1, inf_of.2]; rfl⟩
    clear hinf
    go_wp2_with fail
    refine (realAt_any ng 1360087087465889792 1360087087465889792 _ rfl (by omega)).mono ?_
    rintro e w1 ⟨rfl, hW1⟩
    have A1 := RowAt.below A hW1 (by omega)
    have hB1 : Below w.heap.size w w1 := hB.trans (hW1.mono (by omega))
    clear hW1 A hB
    go_wp2_with (with_reducible refine wpList_idD ?_; refine store_3 rfl 23 _ _ rfl rfl zero_real.2 w.heap.size _ rfl (real_one _ _ _) rfl rfl _ rfl A1 ?_; intro w9 hR9 hg9 hs9)
    exact bodyPost_ret (res_real_tmp Tryd.results5 _ _ w.heap.size _ _ _ _ rfl rfl hR9) rfl ⟨HA.out, hB1.grown hg9 hB1.size (by intro k hk; cases hk; omega)⟩
  · have hi' : (t.toList == [105, 110, 102]) = false := str_ne hinf
    have HI : Hid (bodyN s.data.toList ≠ [105, 110, 102]) := by unfold Hid; rw [← HT.out]; exact hinf
    clear hinf
    go_wp2_with fail
    refine (readDecimal_any t _ hts (Tab.up (Tab.on HTE.out.1 hB) hB.size) (HTE.out.2.below hB)).mono ?_
    rintro e w1 ⟨⟨i, j, p, q, b, rfl, lp, lq, hv⟩, hW1⟩
    have A1 := RowAt.below A hW1 (by omega)
    have hB1 : Below w.heap.size w w1 := hB.trans (hW1.mono (by omega))
    have hl1 : w.heap.size + 1 ≤ w1.heap.size := by have := hW1.size; omega
    have D1 := (NatAt.new w1 0 zP).old (.cells (natC 0 zP) 33)
    have E1 := NatAt.new (w1.alloc (.cells (natC 0 zP) 33)) 0 zP
    simp only [World.size_alloc] at E1
    have HV := hideT' hv
    clear hW1 A hB hv
    go_upto_region 5 with (with_reducible refine wpList_idD ?_; first | (refine store_nat rfl (.tmp 5) _ rfl rfl w1.heap.size i p rfl rfl 0 zP D1 zP_len lp ?_; intro w2 hN2 hg2 hs2) | (refine store_nat rfl (.tmp 6) _ rfl rfl (w1.heap.size + 1) j q rfl rfl 0 zP (E1.grown hg2 (by simp)) zP_len lq ?_; intro w3 hN3 hg3 hs3))
    have A3 : RowAt w3 w.heap.size 23 #[.bool false, .int .i64 0, .int .i64 0] := (((A1.old _).old _).grown hg2 (by simp; omega)).grown hg3 (by simp; omega)
    have hB2 : Below w.heap.size w w2 := ((hB1.alloc hB1.size _).alloc (by simp; have := hB1.size; omega) _).grown hg2 (by simp; have := hB1.size; omega) (by intro k hk; cases hk; have := hB1.size; omega)
    have hB3 : Below w.heap.size w w3 := hB2.grown hg3 hB2.size (by intro k hk; cases hk; omega)
    have D3 : NatAt w3 w1.heap.size i p := hN2.grown hg3 (by simp)
    have hl3 : w1.heap.size + 1 + 1 ≤ w3.heap.size := by rw [hs3, hs2]; simp
    clear A1 hB1 D1 E1 hg2 hg3 hs2 hs3 hB2 hN2
    rcases HV.out with ⟨hd, rfl⟩ | ⟨a, c, x, hd, rfl, hP, hQ, hi, hj, htop⟩
    · have HA : Hid (ReadAns s.data.toList (.returned (.tuple #[.agg #[.bool false, .int .i64 0, .int .i64 0], .bool false]))) := .inr (.inl ⟨⟨HI.out, by rw [← HT.out, ← decI_eq]; exact hd⟩, rfl⟩)
      clear HV hd
      go_wp2_with (with_reducible refine wpList_idD ?_; refine store_3 rfl 23 _ _ rfl rfl zero_real.2 w.heap.size _ rfl (real_one _ _ _) rfl rfl _ rfl A3 ?_; intro w9 hR9 hg9 hs9)
      exact bodyPost_ret (res_real_tmp Tryd.results5 _ _ w.heap.size _ _ _ _ rfl rfl hR9) rfl ⟨HA.out, hB3.grown hg9 hB3.size (by intro k hk; cases hk; omega)⟩
    · have HD := hideT' (And.intro hd (And.intro hP (And.intro hQ htop)))
      clear HV hd hP hQ htop
      go_wp2_with (first | (refine load_nat rfl (.tmp 5) rfl w1.heap.size rfl i p D3 lp ?_) | (refine load_nat rfl (.tmp 6) rfl (w1.heap.size + 1) rfl j q hN3 lq ?_))
      refine (nearestRank_any w3 HD.out.2.1 HD.out.2.2.1 hi hj (ten_twoD (j := 1000) HD.out.2.2.2 (by omega)) (by unfold botR; rw [Nat.one_mul]; exact Nat.ne_of_gt (Nat.pow_pos (by decide)))).mono ?_
      rintro e w4 ⟨⟨r, R, rfl, hr, hR, hr9⟩, hW4⟩
      have A4 := RowAt.below A3 hW4 (by omega)
      have hB4 : Below w.heap.size w w4 := hB3.trans (hW4.mono (by omega))
      have hl4 : w.heap.size + 1 ≤ w4.heap.size := by have := hW4.size; omega
      have HR := hideT' (And.intro hr hR)
      clear hr hR hW4 A3 hB3
      go_wp2_with fail
      refine (realAt_any ng R r _ HR.out.1 hr9).mono ?_
      rintro e w5 ⟨rfl, hW5⟩
      have A5 := RowAt.below A4 hW5 (by omega)
      have hB5 : Below w.heap.size w w5 := hB4.trans (hW5.mono (by omega))
      have HA : Hid (ReadAns s.data.toList (.returned (.tuple #[.agg #[.bool ng, .int .i64 (manOf R : Nat), .int .i64 (expOf R)], .bool true]))) := .inr (.inr ⟨HI.out, a, c, x, R, by rw [← HT.out, ← decI_eq]; exact HD.out.1, HR.out.2, by rw [HNG.out]⟩)
      clear hW5 A4 hB4
      go_wp2_with (with_reducible refine wpList_idD ?_; refine store_3 rfl 23 _ _ rfl rfl zero_real.2 w.heap.size _ rfl (real_one _ _ _) rfl rfl _ rfl A5 ?_; intro w9 hR9 hg9 hs9)
      exact bodyPost_ret (res_real_tmp Tryd.results5 _ _ w.heap.size _ _ _ _ rfl rfl hR9) rfl ⟨HA.out, hB5.grown hg9 hB5.size (by intro k hk; cases hk; omega)⟩
end Go.Proofs.YtoiegaggekgmjaaDoor

/-
  Rows of records that came in as arguments: what their reading says of the cells.
-/
namespace Go.Proofs.YtoiegaggekgmjaaDoor
open Go.ChangeShapes Go.WideShapes Go.ChangeAt Go.RowKit
set_option linter.unusedVariables false

theorem laidOutR : laidOutB Tryd.prog = true := by kernel_rfl

theorem cell_block {w : World} {a : Addr} {v : Value} (h : w.cell? a = some v) : a.block < w.heap.size := by
  rcases Nat.lt_or_ge a.block w.heap.size with h1 | h1
  · exact h1
  · have h2 : w.heap[a.block]? = none := Array.getElem?_eq_none h1
    simp [World.cell?, h2] at h

/-- A slice of records, out of what each record's reading says. -/
theorem open_recs {H : Type} {enc : TypeId × Value → H} {W : World} {X : Type} [Inhabited X] (f : X → List Value) (c : Nat) (hc0 : 0 < c) (hc : ∀ x, (f x).length = c) (Q : X → Prop) {t e : TypeId} (ht : Tryd.prog.underlying t = some (.slice e)) (hce : Tryd.prog.cellsOf e = c)
    (each : ∀ (n : Nat) (cs : List Value) (x : DataW H × List MemPlace), cs.length = c → DataW.trod enc Tryd.prog W 0 (fun _ => true) true n e cs = some x → ∃ d : X, cs = f d ∧ Q d)
    {fuel : Nat} {cs : List Value} {x : DataW H × List MemPlace} (h : DataW.trod enc Tryd.prog W 0 (fun _ => true) true fuel t cs = some x) :
    ∃ (v : Value) (l : List X), cs = [v] ∧ SlR W v f c l ∧ (∀ i, i < l.length → Q (l.getD i default)) ∧ l.length ≤ maxLen := by
  rcases Deep.open_slice ht h with ⟨h1, _⟩ | ⟨a, len', cap', m, n, D, Pl, h1, hb, hl, hm, hmm, hx, hel⟩
  · exact ⟨.slice none 0 0, [], h1, .inl ⟨rfl, rfl⟩, fun i hi => by simp at hi, by unfold maxLen; simp⟩
  · have hlm : len' ≤ m := by rw [hmm]; simp; exact hl
    have each' : ∀ i, i < len' → ∃ d : X, W.cells? 0 (a.add (i * c)) c = some (f d) ∧ Q d := fun i hi => by
      obtain ⟨cs', g1, g2⟩ := hel i (by omega)
      rw [hce] at g1
      obtain ⟨_, hlen, _⟩ := World.cells?_some g1
      obtain ⟨d, rfl, ht⟩ := each _ _ _ hlen g2
      exact ⟨d, g1, ht⟩
    obtain ⟨g, hfl⟩ := Deep.choose_lt each'
    have hlen : ((List.range len').map g).length = len' := by simp
    have hget : ∀ i, i < len' → ((List.range len').map g).getD i default = g i := fun i hi => by simp [List.getD, hi]
    refine ⟨_, (List.range len').map g, h1, .inr ⟨a, cap', by rw [hlen], fun i j v hi hv => ?_, fun h0 => ?_⟩, fun i hi => ?_, by rw [hlen]; omega⟩
    · rw [hlen] at hi
      rw [hget i hi] at hv
      obtain ⟨_, _, hcc⟩ := World.cells?_some (hfl i hi).1
      have hj : j < c := by
        have := (List.getElem?_eq_some_iff.1 hv).1
        rw [hc] at this
        exact this
      rw [hcc j hj]
      exact hv
    · rw [hlen] at h0
      obtain ⟨_, _, hcc⟩ := World.cells?_some (hfl 0 h0).1
      have h2 := hcc 0 hc0
      have h3 : (f (g 0))[0]? = some ((f (g 0))[0]'(by rw [hc]; exact hc0)) := List.getElem?_eq_getElem _
      rw [h3] at h2
      have := cell_block h2
      simpa [Addr.add] using this
    · rw [hlen] at hi
      rw [hget i hi]
      exact (hfl i hi).2
theorem cells_strR : Tryd.prog.cellsOf 9 = 1 := by kernel_rfl
theorem cells_intR : Tryd.prog.cellsOf 3 = 1 := by kernel_rfl
theorem cells_boolR : Tryd.prog.cellsOf 4 = 1 := by kernel_rfl
end Go.Proofs.YtoiegaggekgmjaaDoor

/-
  Reals in the laws: toReal, eqReal, and an argument that is a real.
-/
namespace Go.Proofs.YtoiegaggekgmjaaDoor
open Go.ChangeShapes Go.WideShapes Go.ChangeAt Go.RowKit
set_option linter.unusedVariables false

theorem row_third {w : World} (o o' : Obj) (T : TypeId) (cs : Array Value) : RowAt ((w.alloc o).alloc o') (w.heap.size + 1) T cs → RowAt (((w.alloc o).alloc o').alloc (.cells cs T)) (w.heap.size + 1) T cs := fun h => h.old _

set_option maxHeartbeats 1000000 in
theorem eqReal_any (g : Bool) (m e : Int) (w : World) :
    Calls Tryd.prog 6 #[.agg #[.bool g, .int .i64 m, .int .i64 e], .agg #[.bool g, .int .i64 m, .int .i64 e]] w fun e' w' => e' = .returned (.bool true) ∧ Below w.heap.size w w' := by
  have hg : (g != g) = false := by cases g <;> rfl
  go_enter Tryd.func6, Tryd.ntmps6
  go_wp2
  go_ret
  exact ⟨rfl, ((Below.refl _ _).alloc (Nat.le_refl _) _).alloc (by simp) _⟩

theorem cells_intL : Tryd.prog.cellsOf 3 = 1 := by kernel_rfl
theorem cells_boolL : Tryd.prog.cellsOf 4 = 1 := by kernel_rfl
end Go.Proofs.YtoiegaggekgmjaaDoor
