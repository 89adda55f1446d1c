/-
  The texts CutNum, AddZ, ReadMath, one behind the other.
-/
import Derived.Test.YtmfpnbmfcoahbaaGreatDoorPkGood
import Derived.Test.YtmfpnbmfcoahbaaGreatDoorShelfCut
import Derived.Lib.IndexLaws
import Derived.OwnWalk
import Derived.Test.YtmfpnbmfcoahbaaGreatDoorPkHeld
import Derived.Below
import Derived.Test.YtmfpnbmfcoahbaaGreatDoorFlt
import Derived.Test.YtmfpnbmfcoahbaaGreatDoorPkLehmer

/-
  Cutting a number's text: plain facts, and what strings.CutPrefix and strings.Cut answer.
-/
namespace Go.Proofs.YtmfpnbmfcoahbaaGreatDoor
open Go.RowKit
set_option linter.unusedVariables false

/-! Drawn regions that write nothing but slots. -/
section
variable {ops : Array Oper} {Q : Exit → Act → World → Prop} {md : Region.Mode} {o : Oper} {fuel : Nat} {listed : Array Bool} {a : Act} {w : World}
end

/-- What stands ahead of the first slash, what behind it, and whether there is one. -/
def cut47 : List UInt8 → List UInt8 × List UInt8 × Bool
  | [] => ([], [], false)
  | c :: m => if c = 47 then ([], m, true) else (c :: (cut47 m).1, (cut47 m).2.1, (cut47 m).2.2)

theorem cut47_none : ∀ (l : List UInt8), (∀ k : Nat, l[k]? ≠ some 47) → cut47 l = (l, [], false)
  | [], _ => rfl
  | c :: m, h => by
    have h0 : c ≠ 47 := fun e => h 0 (by rw [e]; rfl)
    have := cut47_none m (fun k => by have := h (k + 1); simpa using this)
    simp only [cut47, if_neg h0, this]
theorem cut47_some : ∀ (l : List UInt8) (i : Nat), l[i]? = some 47 → (∀ k, k < i → l[k]? ≠ some 47) → cut47 l = (l.take i, l.drop (i + 1), true)
  | [], i, h, _ => by simp at h
  | c :: m, 0, h, _ => by
    have h0 : c = 47 := by simpa using h
    simp [cut47, h0]
  | c :: m, i + 1, h, hk => by
    have h0 : c ≠ 47 := fun e => hk 0 (by omega) (by rw [e]; rfl)
    have := cut47_some m i (by simpa using h) (fun k hki => by have := hk (k + 1) (by omega); simpa using this)
    simp only [cut47, if_neg h0, this, List.take_succ_cons, List.drop_succ_cons]

/-- Has it a minus ahead? What is behind it? -/
def negN (l : List UInt8) : Bool := l.head? == some 45
def bodyN (l : List UInt8) : List UInt8 := if negN l then l.tail else l
def overN (l : List UInt8) : List UInt8 := (cut47 (bodyN l)).1
def underN (l : List UInt8) : List UInt8 := (cut47 (bodyN l)).2.1
def brokenN (l : List UInt8) : Bool := (cut47 (bodyN l)).2.2
/-- Is it a number? -/
def okN (l : List UInt8) : Bool := (goodB (overN l) && !(negN l && decide (dval (overN l) = 0))) && (!brokenN l || (goodB (underN l) && (decide (dval (underN l) ≠ 0) && (decide (dval (underN l) ≠ 1) && decide (Nat.gcd (dval (overN l)) (dval (underN l)) = 1)))))
def topN (l : List UInt8) : Nat := dval (overN l)
def botN (l : List UInt8) : Nat := if brokenN l then dval (underN l) else 1

theorem cut_size : ∀ (l : List UInt8), (cut47 l).1.length ≤ l.length ∧ (cut47 l).2.1.length ≤ l.length
  | [] => by simp [cut47]
  | c :: m => by
    have := cut_size m
    by_cases h : c = 47
    · simp [cut47, h]
    · simp only [cut47, if_neg h, List.length_cons]; omega

theorem ext_front (s : ByteArray) (h : 1 ≤ s.size) : (s.extract 0 1).toList = s.data.toList.take 1 := by
  rw [ByteArray.toList_eq, ByteArray.data_extract, Array.toList_extract, List.extract_eq_take_drop, List.drop_zero]
theorem negN_front {l : List UInt8} : negN l = (l.take 1 == [45]) := by
  cases l with
  | nil => rfl
  | cons c m => simp [negN]

set_option maxHeartbeats 400000 in
set_option maxRecDepth 100000 in
theorem cutPrefix_any (s : ByteArray) (w : World) (hs : s.size ≤ maxLen) :
    Calls Tryz.prog 84 #[.string s, .string ⟨#[45]⟩] w fun e w' => ∃ t : ByteArray, e = .returned (.tuple #[.string t, .bool (negN s.data.toList)]) ∧ t.data.toList = bodyN s.data.toList ∧ w' = w := by
  unfold maxLen at hs
  by_cases h1 : 1 ≤ s.size
  · have h1' : (1 : Int) ≤ (s.size : Int) := by omega
    cases hE : ((s.extract 0 1).toList == [45]) with
    | true =>
      have HN : Hid (negN s.data.toList = true) := by unfold Hid; rw [negN_front, ← ext_front s h1]; exact hE
      have HB : Hid ((s.extract 1 s.size).data.toList = bodyN s.data.toList) := by
        unfold Hid bodyN
        rw [HN.out, if_pos rfl, ext_tail]; simp
      go_enter Tryz.func84, Tryz.ntmps84
      go_wp2
      go_ret2
      exact ⟨_, by rw [HN.out]; rfl, HB.out, rfl⟩
    | false =>
      have HN : Hid (negN s.data.toList = false) := by unfold Hid; rw [negN_front, ← ext_front s h1]; exact hE
      have HB : Hid (s.data.toList = bodyN s.data.toList) := by
        unfold Hid bodyN
        rw [HN.out]; rfl
      go_enter Tryz.func84, Tryz.ntmps84
      go_wp2
      go_ret2
      exact ⟨_, by rw [HN.out]; rfl, HB.out, rfl⟩
  · have h1' : (s.size : Int) < 1 := by omega
    have hl0 : s.data.toList.length = s.size := by simp
    have hl : s.data.toList = [] := List.length_eq_zero_iff.1 (by omega)
    have HN : Hid (negN s.data.toList = false) := by unfold Hid; rw [hl]; rfl
    have HB : Hid (s.data.toList = bodyN s.data.toList) := by
      unfold Hid bodyN
      rw [HN.out]; rfl
    clear hl hl0
    go_enter Tryz.func84, Tryz.ntmps84
    go_wp2
    go_ret2
    exact ⟨_, by rw [HN.out]; rfl, HB.out, rfl⟩

set_option maxHeartbeats 400000 in
set_option maxRecDepth 100000 in
theorem slCut_any (s : ByteArray) (w : World) (hs : s.size ≤ maxLen) :
    Calls Tryz.prog 93 #[.string s, .string ⟨#[47]⟩] w fun e w' => ∃ t u : ByteArray, e = .returned (.tuple #[.string t, .string u, .bool (cut47 s.data.toList).2.2]) ∧ t.data.toList = (cut47 s.data.toList).1 ∧ u.data.toList = (cut47 s.data.toList).2.1 ∧ Below w.heap.size w w' := by
  unfold maxLen at hs
  have hge := Lib.indexByte_ge s.data.toList 47
  obtain ⟨x, hx⟩ : ∃ x, x = Lib.indexByte s.data.toList 47 := ⟨_, rfl⟩
  rw [← hx] at hge
  by_cases h : 0 ≤ x
  · obtain ⟨i, rfl⟩ : ∃ i : Nat, x = (i : Int) := ⟨x.toNat, by omega⟩
    obtain ⟨h1, h2⟩ := Lib.indexByte_some hx.symm
    have hc := cut47_some s.data.toList i h1 h2
    have hi : i < s.size := by
      have := (List.getElem?_eq_some_iff.1 h1).1
      simpa using this
    have HT : Hid ((s.extract 0 i).data.toList = (cut47 s.data.toList).1 ∧ (s.extract (i + 1) s.size).data.toList = (cut47 s.data.toList).2.1 ∧ (cut47 s.data.toList).2.2 = true) := by
      unfold Hid; rw [hc, ext_head, ext_tail]; exact ⟨rfl, rfl, rfl⟩
    have HX := hideT' hx
    have hi2 : (i : Int) ≤ (s.size : Int) := by omega
    obtain ⟨k1, hk1⟩ : ∃ k1, k1 = i + 1 := ⟨_, rfl⟩
    rw [← hk1] at HT
    have hwk : IntKind.i64.wrap ((i : Int) + 1) = (k1 : Int) := by rw [IntKind.wrap_i64]; omega
    have hi3 : (k1 : Int) ≤ (s.size : Int) := by omega
    clear hx h1 h2 hc hk1
    go_enter Tryz.func93, Tryz.ntmps93
    go_wp2_with fail
    refine (Tryz.stringslite_Index_one s 47 _).mono ?_
    rintro e w' ⟨rfl, rfl⟩
    rw [← HX.out]
    go_wp2_with fail
    refine held_begin0 (by kernel_rfl) ?_
    refine held_val0 0 (some 13) rfl rfl (by kernel_rfl) (by kernel_rfl) (by kernel_rfl) rfl (.string s) (fun _ => rfl) ?_
    simp only [Act.put, List.setIfInBounds_toArray, List.set_cons_zero, List.set_cons_succ]
    refine held_val0 1 (some 14) rfl rfl (by kernel_rfl) (by kernel_rfl) (by kernel_rfl) rfl (.int .i64 (i : Int)) (fun _ => rfl) ?_
    simp only [Act.put, List.setIfInBounds_toArray, List.set_cons_zero, List.set_cons_succ]
    refine held_val0 2 (some 15) rfl rfl (by kernel_rfl) (by kernel_rfl) (by kernel_rfl) rfl (.string (s.extract 0 i)) (fun _ => by go_simp) ?_
    simp only [Act.put, List.setIfInBounds_toArray, List.set_cons_zero, List.set_cons_succ]
    refine held_val0 3 (some 16) rfl rfl (by kernel_rfl) (by kernel_rfl) (by kernel_rfl) rfl (.string s) (fun _ => rfl) ?_
    simp only [Act.put, List.setIfInBounds_toArray, List.set_cons_zero, List.set_cons_succ]
    refine held_val0 4 (some 17) rfl rfl (by kernel_rfl) (by kernel_rfl) (by kernel_rfl) rfl (.int .i64 (i : Int)) (fun _ => rfl) ?_
    simp only [Act.put, List.setIfInBounds_toArray, List.set_cons_zero, List.set_cons_succ]
    refine held_val0 5 (some 18) rfl rfl (by kernel_rfl) (by kernel_rfl) (by kernel_rfl) rfl (.string ⟨#[47]⟩) (fun _ => rfl) ?_
    simp only [Act.put, List.setIfInBounds_toArray, List.set_cons_zero, List.set_cons_succ]
    refine held_val0 6 (some 19) rfl rfl (by kernel_rfl) (by kernel_rfl) (by kernel_rfl) rfl (.int .i64 1) (fun _ => by go_simp) ?_
    simp only [Act.put, List.setIfInBounds_toArray, List.set_cons_zero, List.set_cons_succ]
    refine held_val0 7 (some 20) rfl rfl (by kernel_rfl) (by kernel_rfl) (by kernel_rfl) rfl (.int .i64 (k1 : Int)) (fun _ => by go_simp) ?_
    simp only [Act.put, List.setIfInBounds_toArray, List.set_cons_zero, List.set_cons_succ]
    refine held_val0 8 (some 21) rfl rfl (by kernel_rfl) (by kernel_rfl) (by kernel_rfl) rfl (.string (s.extract k1 s.size)) (fun _ => by go_simp) ?_
    simp only [Act.put, List.setIfInBounds_toArray, List.set_cons_zero, List.set_cons_succ]
    refine held_assign0 9 (some 4) (by kernel_rfl) rfl rfl _ rfl rfl (.string (s.extract 0 i)) rfl ?_
    simp only [Act.put, List.setIfInBounds_toArray, List.set_cons_zero, List.set_cons_succ]
    refine held_assign0 10 (some 5) (by kernel_rfl) rfl rfl _ rfl rfl (.string (s.extract k1 s.size)) rfl ?_
    simp only [Act.put, List.setIfInBounds_toArray, List.set_cons_zero, List.set_cons_succ]
    refine held_assign0 11 (some 6) (by kernel_rfl) rfl rfl _ rfl rfl (.bool true) rfl ?_
    simp only [Act.put, List.setIfInBounds_toArray, List.set_cons_zero, List.set_cons_succ]
    refine wpAnyH_done (by kernel_rfl) ?_ _
    refine NoPanic.normal ?_
    go_wp2
    go_ret3
    exact ⟨_, _, by rw [HT.out.2.2]; rfl, HT.out.1, HT.out.2.1, (Below.refl _ _).drew⟩
  · have hx1 : x = -1 := by omega
    have hc := cut47_none s.data.toList (Lib.indexByte_none (by rw [← hx, hx1]))
    have HT : Hid (s.data.toList = (cut47 s.data.toList).1 ∧ ([] : List UInt8) = (cut47 s.data.toList).2.1 ∧ (cut47 s.data.toList).2.2 = false) := by
      unfold Hid; rw [hc]; exact ⟨rfl, rfl, rfl⟩
    have HX := hideT' hx
    subst hx1
    clear hx hc
    go_enter Tryz.func93, Tryz.ntmps93
    go_wp2_with fail
    refine (Tryz.stringslite_Index_one s 47 _).mono ?_
    rintro e w' ⟨rfl, rfl⟩
    rw [← HX.out]
    go_wp2
    go_ret3
    exact ⟨s, ⟨#[]⟩, by rw [HT.out.2.2]; rfl, HT.out.1, HT.out.2.1, Below.refl _ _⟩

set_option maxHeartbeats 400000 in
set_option maxRecDepth 100000 in
theorem cut_any (s : ByteArray) (w : World) (hs : s.size ≤ maxLen) :
    Calls Tryz.prog 85 #[.string s, .string ⟨#[47]⟩] w fun e w' => ∃ t u : ByteArray, e = .returned (.tuple #[.string t, .string u, .bool (cut47 s.data.toList).2.2]) ∧ t.data.toList = (cut47 s.data.toList).1 ∧ u.data.toList = (cut47 s.data.toList).2.1 ∧ Below w.heap.size w w' := by
  go_enter Tryz.func85, Tryz.ntmps85
  go_wp2_with fail
  refine (slCut_any s _ hs).mono ?_
  rintro e w' ⟨t, u, rfl, h1, h2, hW⟩
  have H := hideT' (And.intro h1 h2)
  clear h1 h2
  go_wp2
  go_ret3
  exact ⟨t, u, rfl, H.out.1, H.out.2, hW⟩
end Go.Proofs.YtmfpnbmfcoahbaaGreatDoor

/-
  The top and the bottom of a sum of fractions: plain facts.
-/
namespace Go.Proofs.YtmfpnbmfcoahbaaGreatDoor
set_option linter.unusedVariables false

/-- The top of the sum. -/
def topZ (g : Bool) (n m : Nat) (g' : Bool) (n' m' : Nat) : Int := sg g n * (m' : Int) + sg g' n' * (m : Int)
theorem sg_mulN (g : Bool) (n m : Nat) : sg g (n * m) = sg g n * (m : Int) := by
  unfold sg; cases g <;> simp [Int.neg_mul]
theorem topZ_eq (g : Bool) (n m : Nat) (g' : Bool) (n' m' : Nat) : sg g (n * m') + sg g' (n' * m) = topZ g n m g' n' m' := by
  unfold topZ; rw [sg_mulN, sg_mulN]
theorem topZ_abs (g : Bool) (n m : Nat) (g' : Bool) (n' m' : Nat) : (topZ g n m g' n' m').natAbs ≤ n * m' + n' * m := by
  rw [← topZ_eq]
  have h1 := sg_abs g (n * m')
  have h2 := sg_abs g' (n' * m)
  omega

/-- What is to be told of a sum, or of a difference where less says so. -/
def addZ (less : Bool) (a b : ByteArray) : Int := topZ (negN a.data.toList) (topN a.data.toList) (botN a.data.toList) (negN b.data.toList != less) (topN b.data.toList) (botN b.data.toList)
def addBot (a b : ByteArray) : Nat := botN a.data.toList * botN b.data.toList
theorem okN_bot' {l : List UInt8} (h : okN l = true) : botN l ≠ 0 := by
  unfold okN at h
  unfold botN
  cases hb : brokenN l with
  | false => simp
  | true =>
    rw [hb] at h
    simp only [Bool.and_eq_true, Bool.not_true, Bool.false_or, decide_eq_true_eq] at h
    rw [if_pos rfl]
    exact h.2.2.1
theorem okN_neg' {l : List UInt8} (h : okN l = true) (hn : negN l = true) : topN l ≠ 0 := by
  unfold okN at h
  unfold topN
  rw [hn] at h
  simp only [Bool.and_eq_true, Bool.true_and, Bool.not_eq_true', decide_eq_false_iff_not] at h
  exact h.1.2
theorem sg_neg (h : Bool) (N : Nat) : (h && decide (N ≠ 0)) = decide (sg h N < 0) := by
  unfold sg
  by_cases hN : N = 0
  · subst hN; cases h <;> rfl
  · rw [decide_eq_true hN, Bool.and_true]
    cases h with
    | true => simp <;> omega
    | false => simp <;> omega
theorem sg_turn (h : Bool) (N : Nat) : sg (h && decide (N ≠ 0)) N = sg h N := by
  unfold sg
  by_cases hN : N = 0
  · subst hN; cases h <;> rfl
  · rw [decide_eq_true hN, Bool.and_true]

end Go.Proofs.YtmfpnbmfcoahbaaGreatDoor

/-
  What ReadNum should read: plain facts.
-/
namespace Go.Proofs.YtmfpnbmfcoahbaaGreatDoor
set_option linter.unusedVariables false

/-- The radix of a sign's letter, 0 where it is none. -/
def letR (c : UInt8) : Nat := if c = 120 then 16 else if c = 111 then 8 else if c = 98 then 2 else if c = 100 then 10 else 0
/-- The radix, 0 where its sign is none, and what stands behind the sign. -/
def radN : List UInt8 → Nat × List UInt8
  | a :: c :: t => if a = 35 then (letR c, t) else (10, a :: c :: t)
  | l => (10, l)
/-- Whether it is below 0, and what stands behind the sign. -/
def sigN : List UInt8 → Bool × List UInt8
  | a :: t => if a = 45 then (true, t) else if a = 43 then (false, t) else (false, a :: t)
  | [] => (false, [])
def rdRad (l : List UInt8) : Nat := (radN l).1
def rdNeg (l : List UInt8) : Bool := (sigN (radN l).2).1
def rdTop (l : List UInt8) : List UInt8 := (cut47 (sigN (radN l).2).2).1
def rdBot (l : List UInt8) : List UInt8 := if (cut47 (sigN (radN l).2).2).2.2 then (cut47 (sigN (radN l).2).2).2.1 else [49]
/-- Digits of the radix, 1 to 600 of them. -/
def rdDig (b : Nat) (l : List UInt8) : Bool := (decide (0 < l.length) && decide (l.length ≤ 600)) && rdigs b l
def rdOkN (l : List UInt8) : Bool := (decide (rdRad l ≠ 0) && (rdDig (rdRad l) (rdTop l) && rdDig (rdRad l) (rdBot l))) && decide (rval (rdRad l) (rdBot l) ≠ 0)

theorem letR_cases (c : UInt8) : letR c = 16 ∨ letR c = 8 ∨ letR c = 2 ∨ letR c = 10 ∨ letR c = 0 := by
  unfold letR; split <;> (try split) <;> (try split) <;> (try split) <;> simp
theorem radN_short {l : List UInt8} (h : l.length ≤ 1) : radN l = (10, l) := by
  match l, h with
  | [], _ => rfl
  | [a], _ => rfl
theorem rdRad_cases (l : List UInt8) : rdRad l = 16 ∨ rdRad l = 8 ∨ rdRad l = 2 ∨ rdRad l = 10 ∨ rdRad l = 0 := by
  unfold rdRad radN
  split
  · split
    · exact letR_cases _
    · simp
  · simp
theorem cut47_lens : ∀ (l : List UInt8), (cut47 l).1.length ≤ l.length ∧ (cut47 l).2.1.length ≤ l.length := cut_size
end Go.Proofs.YtmfpnbmfcoahbaaGreatDoor
