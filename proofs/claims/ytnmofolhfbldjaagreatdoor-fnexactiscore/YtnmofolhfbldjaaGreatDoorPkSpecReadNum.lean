/-
  The texts SpecReadNum, RdCore, ImplReadNum, Floor, one behind the other.
-/
import Derived.Test.YtnmofolhfbldjaaGreatDoorPkCutNum
import Derived.Test.YtnmofolhfbldjaaGreatDoorPkSpecParts
import Derived.Test.YtnmofolhfbldjaaGreatDoorPkSpecSub
import Derived.Test.YtnmofolhfbldjaaGreatDoorPkImplMake
import Derived.Deep.CutBlock
import Derived.Deep.DeepCutAuto
import Derived.Test.YtnmofolhfbldjaaGreatDoorPkMinus
import Derived.Deep.QuietTactic
import Derived.BigQuiet
import Derived.Test.YtnmofolhfbldjaaGreatDoorPkImplDigits
import Derived.Test.YtnmofolhfbldjaaGreatDoorPkSpecAdd
import Derived.Test.YtnmofolhfbldjaaGreatDoorPkReadNumA

/-
  What spec.l2Cut, spec.l2Read and spec.ReadNum answer.
-/
namespace Go.Proofs.YtnmofolhfbldjaaGreatDoor
open Go.RowKit
set_option linter.unusedVariables false

set_option maxHeartbeats 1000000 in
set_option maxRecDepth 100000 in
theorem l2Cut_any (s : ByteArray) (w : World) (hs : s.size ≤ maxLen) :
    Calls Tryz.prog 37 #[.string s, .int .u8 47] w fun e w' => (∃ t u : ByteArray, e = .returned (.tuple #[.string t, .string u, .bool (cut47 s.data.toList).2.2]) ∧ t.data.toList = (cut47 s.data.toList).1 ∧ u.data.toList = (cut47 s.data.toList).2.1) ∧ Below w.heap.size w w' := by
  unfold maxLen at hs
  have hs' : (s.size : Int) ≤ 9223372036854775807 := by omega
  go_enter Tryz.func37, Tryz.ntmps37
  go_wp2_with fail
  go_loopg [7] s.size (fun g i wr => ∃ k : Nat, g = s.size - k ∧ k ≤ s.size ∧ i = .int .i64 (k : Int) ∧ Hid (∀ j, j < k → s.data.toList[j]? ≠ some 47) ∧ wr = w)
  case atStart => exact ⟨0, rfl, Nat.zero_le _, rfl, fun j hj => by omega, rfl⟩
  case round =>
    obtain ⟨k, hg, hk, rfl, HK, rfl⟩ := hrel
    by_cases hlt : k < s.size
    · have hlt' : (k : Int) < (s.size : Int) := by omega
      by_cases h47 : s[k] = 47
      · have h47' : (s[k].toNat : Int) = 47 := by rw [h47]; rfl
        have hc := cut47_some s.data.toList k (by rw [getN k hlt, h47]) HK.out
        obtain ⟨k1, hk1⟩ : ∃ k1, k1 = k + 1 := ⟨_, rfl⟩
        have hwk : IntKind.i64.wrap ((k : Int) + 1) = (k1 : Int) := by rw [IntKind.wrap_i64]; omega
        have hk1' : (k1 : Int) ≤ (s.size : Int) := by omega
        have hk' : (k : Int) ≤ (s.size : Int) := by omega
        have HC : Hid ((s.extract 0 k).data.toList = (cut47 s.data.toList).1 ∧ (s.extract k1 s.size).data.toList = (cut47 s.data.toList).2.1 ∧ (cut47 s.data.toList).2.2 = true) := by
          unfold Hid
          rw [hc, ext_head, ext_tail, hk1]; exact ⟨rfl, rfl, rfl⟩
        clear hc hk1 h47
        go_wp2_with fail
        refine held_begin0 (by kernel_rfl) ?_
        refine held_val0 0 (some 19) rfl rfl (by kernel_rfl) (by kernel_rfl) (by kernel_rfl) rfl (.string s) (fun _ => rfl) ?_
        simp only [Act.put, List.setIfInBounds_toArray, List.set_cons_zero, List.set_cons_succ]
        refine held_val0 1 (some 20) rfl rfl (by kernel_rfl) (by kernel_rfl) (by kernel_rfl) rfl (.int .i64 (k : Int)) (fun _ => rfl) ?_
        simp only [Act.put, List.setIfInBounds_toArray, List.set_cons_zero, List.set_cons_succ]
        refine held_val0 2 (some 21) rfl rfl (by kernel_rfl) (by kernel_rfl) (by kernel_rfl) rfl (.string (s.extract 0 k)) (fun _ => by go_simp) ?_
        simp only [Act.put, List.setIfInBounds_toArray, List.set_cons_zero, List.set_cons_succ]
        refine held_val0 3 (some 22) rfl rfl (by kernel_rfl) (by kernel_rfl) (by kernel_rfl) rfl (.string s) (fun _ => rfl) ?_
        simp only [Act.put, List.setIfInBounds_toArray, List.set_cons_zero, List.set_cons_succ]
        refine held_val0 4 (some 23) rfl rfl (by kernel_rfl) (by kernel_rfl) (by kernel_rfl) rfl (.int .i64 (k : Int)) (fun _ => rfl) ?_
        simp only [Act.put, List.setIfInBounds_toArray, List.set_cons_zero, List.set_cons_succ]
        refine held_val0 5 (some 24) rfl rfl (by kernel_rfl) (by kernel_rfl) (by kernel_rfl) rfl (.int .i64 (k1 : Int)) (fun _ => by go_simp) ?_
        simp only [Act.put, List.setIfInBounds_toArray, List.set_cons_zero, List.set_cons_succ]
        refine held_val0 6 (some 25) rfl rfl (by kernel_rfl) (by kernel_rfl) (by kernel_rfl) rfl (.string (s.extract k1 s.size)) (fun _ => by go_simp) ?_
        simp only [Act.put, List.setIfInBounds_toArray, List.set_cons_zero, List.set_cons_succ]
        refine held_assign0 7 (some 4) (by kernel_rfl) rfl rfl _ rfl rfl (.string (s.extract 0 k)) rfl ?_
        simp only [Act.put, List.setIfInBounds_toArray, List.set_cons_zero, List.set_cons_succ]
        refine held_assign0 8 (some 5) (by kernel_rfl) rfl rfl _ rfl rfl (.string (s.extract k1 s.size)) rfl ?_
        simp only [Act.put, List.setIfInBounds_toArray, List.set_cons_zero, List.set_cons_succ]
        refine held_assign0 9 (some 6) (by kernel_rfl) rfl rfl _ rfl rfl (.bool true) rfl ?_
        simp only [Act.put, List.setIfInBounds_toArray, List.set_cons_zero, List.set_cons_succ]
        refine wpAnyH_done (by kernel_rfl) ?_ _
        refine NoPanic.normal ?_
        go_wp2
        (try simp only [Exit.inBlock, Exit.then]); refine bodyPost_ret (results_tmp3 rfl _ _ _) rfl ?_
        exact ⟨⟨_, _, by rw [HC.out.2.2]; rfl, HC.out.1, HC.out.2.1⟩, (Below.refl _ _).drew⟩
      · have h47' : ((s[k].toNat : Int) == 47) = false := by
          rw [beq_eq_false_iff_ne]
          intro e; apply h47; exact UInt8.toNat_inj.1 (by simpa using (by omega : s[k].toNat = 47))
        have HK2 : Hid (∀ j, j < k + 1 → s.data.toList[j]? ≠ some 47) := by
          intro j hj
          by_cases e : j = k
          · subst e; rw [getN j hlt]; intro h; exact h47 (by injection h)
          · exact HK.out j (by omega)
        clear h47
        go_wp2
        go_roundg (s.size - (k + 1))
        case measure => omega
        case rel => exact ⟨k + 1, rfl, by omega, by go_num, HK2, rfl⟩
    · have hc := cut47_none s.data.toList (fun j => by
        by_cases hj : j < s.size
        · exact HK.out j (by omega)
        · rw [List.getElem?_eq_none (by simp; omega)]; simp)
      have HA : Hid (s.data.toList = (cut47 s.data.toList).1 ∧ (⟨#[]⟩ : ByteArray).data.toList = (cut47 s.data.toList).2.1 ∧ (cut47 s.data.toList).2.2 = false) := by
        unfold Hid; rw [hc]; exact ⟨rfl, rfl, rfl⟩
      clear hc
      have hlt' : ¬ (k : Int) < (s.size : Int) := by omega
      go_wp2
      go_ret3
      exact ⟨⟨_, _, by rw [HA.out.2.2]; rfl, HA.out.1, HA.out.2.1⟩, Below.refl _ _⟩

/-- What ReadNum should answer. -/
def ReadAns (s : ByteArray) (e : Ending) : Prop :=
  (rdOkN s.data.toList = true ∧ TellsN (rdNeg s.data.toList && decide (rval (rdRad s.data.toList) (rdTop s.data.toList) ≠ 0)) (rval (rdRad s.data.toList) (rdTop s.data.toList) / Nat.gcd (rval (rdRad s.data.toList) (rdTop s.data.toList)) (rval (rdRad s.data.toList) (rdBot s.data.toList))) (rval (rdRad s.data.toList) (rdBot s.data.toList) / Nat.gcd (rval (rdRad s.data.toList) (rdTop s.data.toList)) (rval (rdRad s.data.toList) (rdBot s.data.toList))) e) ∨ (rdOkN s.data.toList = false ∧ Mute e)
theorem ReadAns.same {s : ByteArray} {e e' : Ending} (h : ReadAns s e) (h' : ReadAns s e') : ∃ (t : ByteArray) (o : Bool), e = .returned (.tuple #[.string t, .bool o]) ∧ e' = .returned (.tuple #[.string t, .bool o]) := by
  rcases h with ⟨g1, h⟩ | ⟨g1, h⟩ <;> rcases h' with ⟨g2, h'⟩ | ⟨g2, h'⟩
  · exact h.same h'
  · rw [g1] at g2; cases g2
  · rw [g1] at g2; cases g2
  · exact h.same h'

theorem byte_ne {c : UInt8} {n : Nat} (hn : n < 256) (h : c ≠ UInt8.ofNat n) : ((c.toNat : Int) == (n : Int)) = false := by
  rw [beq_eq_false_iff_ne]
  intro e
  apply h
  have : c.toNat = n := by omega
  rw [← this]; simp
theorem radN_of {s : ByteArray} (h : 1 < s.size) : radN s.data.toList = if s[0] = 35 then (letR s[1], s.data.toList.drop 2) else (10, s.data.toList) := by
  have h0 := getN 0 (t := s) (by omega)
  have h1 := getN 1 (t := s) (by omega)
  generalize s.data.toList = l at h0 h1 ⊢
  match l, h0, h1 with
  | a :: c :: t, h0, h1 =>
    simp at h0 h1
    subst h0 h1
    rfl
theorem sigN_of {s : ByteArray} (h : 0 < s.size) : sigN s.data.toList = if s[0] = 45 then (true, s.data.toList.drop 1) else if s[0] = 43 then (false, s.data.toList.drop 1) else (false, s.data.toList) := by
  have h0 := getN 0 (t := s) (by omega)
  generalize s.data.toList = l at h0 ⊢
  match l, h0 with
  | a :: t, h0 =>
    simp at h0
    subst h0
    rfl
theorem sigN_none {s : ByteArray} (h : ¬ 0 < s.size) : sigN s.data.toList = (false, s.data.toList) := by
  have h1 : s.data.toList.length = s.size := by simp
  have : s.data.toList = [] := List.length_eq_zero_iff.1 (by omega)
  rw [this]; rfl

theorem rdDig_eq {b : Nat} {o : ByteArray} (h : o.size ≤ 600) : rdDig b o.data.toList = (decide (0 < o.size) && rdigs b o.data.toList) := by
  have hl : o.data.toList.length = o.size := by simp
  unfold rdDig
  rw [hl, decide_eq_true h, Bool.and_true]
theorem rdDig_long {b : Nat} {o : ByteArray} (h : ¬ o.size ≤ 600) : rdDig b o.data.toList = false := by
  have hl : o.data.toList.length = o.size := by simp
  unfold rdDig
  rw [hl, decide_eq_false h]; simp
theorem rdDig_digs {b : Nat} {l : List UInt8} (h : rdDig b l = true) : rdigs b l = true := by
  unfold rdDig at h
  simp only [Bool.and_eq_true] at h
  exact h.2
theorem rad_pow {b k : Nat} (hb : b ≤ 16) : b ^ k ≤ 10 ^ (2 * k) := by
  rw [Nat.pow_mul]
  exact Nat.pow_le_pow_left (by omega) k
theorem rad_sizeK (K : Nat) (hK : 1 ≤ K) {b : Nat} {o t : ByteArray} (hb : b ≤ 16) (ho : o.size ≤ K) (hd : rdigs b o.data.toList = true) (hc : canonB t.data.toList = true) (hv : dval t.data.toList = rval b o.data.toList) : t.size ≤ 2 * K := by
  have hl : o.data.toList.length = o.size := by simp
  have h1 := rval_lt b o.data.toList hd
  rw [hl, ← hv] at h1
  have h2 : 10 ^ (2 * o.size) ≤ 10 ^ (2 * K) := Nat.pow_le_pow_right (by decide) (by omega)
  have h3 := Nat.lt_of_lt_of_le h1 (Nat.le_trans (rad_pow hb) h2)
  have h4 := (canon_len_le hc (2 * K) (by omega)).2 h3
  simpa using h4
theorem rad_size {b : Nat} {o t : ByteArray} (hb : b ≤ 16) (ho : o.size ≤ 600) (hd : rdigs b o.data.toList = true) (hc : canonB t.data.toList = true) (hv : dval t.data.toList = rval b o.data.toList) : t.size ≤ 1200 := rad_sizeK 600 (by decide) hb ho hd hc hv
theorem TellsN.form3 {g : Bool} {n m : Nat} {e : Ending} (h : TellsN g n m e) : ∃ (s : ByteArray) (o : Bool), e = .returned (.tuple #[.string s, .bool o]) := by
  obtain ⟨s, rfl, _, _⟩ := h
  exact ⟨s, _, rfl⟩

/-- Whether a radix's sign stands at the front. -/
def hsh (s : ByteArray) : Bool := decide (1 < s.size) && s.data.toList.head? == some 35
theorem hsh_of {s : ByteArray} (h : 1 < s.size) : hsh s = (s[0] == 35) := by
  unfold hsh
  rw [decide_eq_true h, List.head?_eq_getElem?, getN 0 (by omega)]; rfl
theorem hsh_no {s : ByteArray} (h : hsh s = false) : radN s.data.toList = (10, s.data.toList) := by
  by_cases h1 : 1 < s.size
  · rw [hsh_of h1] at h
    rw [radN_of h1, if_neg (by simpa using h)]
  · exact radN_short (by have : s.data.toList.length = s.size := by simp
                         omega)
theorem hsh_yes {s : ByteArray} (h : hsh s = true) : 1 < s.size ∧ radN s.data.toList = (letR (s.data.toList.getD 1 0), s.data.toList.drop 2) := by
  have h1 : 1 < s.size := by unfold hsh at h; simp at h; omega
  rw [hsh_of h1] at h
  refine ⟨h1, ?_⟩
  rw [radN_of h1, if_pos (by simpa using h)]
  simp [List.getD, getN 1 h1]

/-- Whether a sign stands at the front. -/
def sgd (s : ByteArray) : Bool := decide (0 < s.size) && (s.data.toList.head? == some 43 || s.data.toList.head? == some 45)
theorem sgd_of {s : ByteArray} (h : 0 < s.size) : sgd s = (s[0] == 43 || s[0] == 45) := by
  unfold sgd
  rw [decide_eq_true h, List.head?_eq_getElem?, getN 0 h]; rfl
theorem sgd_no {s : ByteArray} (h : sgd s = false) : sigN s.data.toList = (false, s.data.toList) := by
  by_cases h1 : 0 < s.size
  · rw [sgd_of h1] at h
    simp at h
    rw [sigN_of h1, if_neg h.2, if_neg h.1]
  · exact sigN_none h1
theorem sgd_yes {s : ByteArray} (h : sgd s = true) : ∃ h0 : 0 < s.size, sigN s.data.toList = (s[0] == 45, s.data.toList.drop 1) := by
  have h1 : 0 < s.size := by
    by_cases h0 : 0 < s.size
    · exact h0
    · unfold sgd at h; rw [decide_eq_false h0] at h; cases h
  refine ⟨h1, ?_⟩
  rw [sgd_of h1] at h
  rw [sigN_of h1]
  by_cases h45 : s[0] = 45
  · rw [if_pos h45, h45]; rfl
  · rw [if_neg h45]
    have h43 : s[0] = 43 := by simp [h45] at h; exact h
    rw [if_pos h43, h43]; rfl

set_option maxHeartbeats 1000000 in
set_option maxRecDepth 100000 in
theorem l2Read_any (s : ByteArray) (w : World) (hs : s.size ≤ maxLen) :
    Calls Tryz.prog 22 #[.string s] w fun e w' => ReadAns s e ∧ Below w.heap.size w w' := by
  unfold maxLen at hs
  go_enter Tryz.func22, Tryz.ntmps22
  go_upto_region 2 with fail
  go_cut [20] (fun x wx => x = .bool (hsh s) ∧ wx = w)
  case first =>
    by_cases h1 : 1 < s.size
    · have h1' : (1 : Int) < (s.size : Int) := by omega
      have h0 : 0 < s.size := by omega
      cases h35 : (s[0] == 35) with
      | true =>
        have HH : Hid (hsh s = true) := by unfold Hid; rw [hsh_of h1]; exact h35
        have h35' : s[0].toNat = 35 := by rw [eq_of_beq h35]; rfl
        clear h35
        go_wp2
        go_meet
        case rel => exact ⟨by rw [HH.out], rfl⟩
      | false =>
        have HH : Hid (hsh s = false) := by unfold Hid; rw [hsh_of h1]; exact h35
        have h35' : ((s[0].toNat : Int) == 35) = false := byte_ne (n := 35) (by decide) (by simpa using h35)
        clear h35
        go_wp2
        go_meet
        case rel => exact ⟨by rw [HH.out], rfl⟩
    · have HH : Hid (hsh s = false) := by unfold Hid hsh; rw [decide_eq_false h1]; rfl
      have h1' : ¬ (1 : Int) < (s.size : Int) := by omega
      go_wp2
      go_meet
      case rel => exact ⟨by rw [HH.out], rfl⟩
  case rest =>
    obtain ⟨rfl, rfl⟩ := hcut
    obtain ⟨hh, hhd⟩ : ∃ hh, hh = hsh s := ⟨_, rfl⟩
    rw [← hhd]
    have HH := hideT' hhd
    clear hhd
    go_upto_if 20 with fail
    go_cut [0, 4] (fun x y wx => ∃ (t : ByteArray) (b : Nat) (r : Int), x = .string t ∧ y = .int .i64 r ∧ r = (b : Int) ∧ 2 ≤ r ∧ r ≤ 16 ∧ Hid (radN s.data.toList = (b, t.data.toList)) ∧ t.size ≤ s.size ∧ wx = wc)
    case first =>
      cases hh with
      | true =>
        obtain ⟨h1, hr⟩ := hsh_yes HH.out.symm
        have h1' : (1 : Int) < (s.size : Int) := by omega
        have h2' : (2 : Int) ≤ (s.size : Int) := by omega
        have HR : Hid (radN s.data.toList = (letR s[1], s.data.toList.drop 2)) := by
          unfold Hid; rw [hr]; simp [List.getD, getN 1 h1]
        clear hr
        by_cases h120 : s[1] = 120
        · have hl : letR s[1] = 16 := by rw [h120]; rfl
          have hb : (s[1].toNat : Int) = 120 := by rw [h120]; rfl
          have HX : Hid (radN s.data.toList = (16, (s.extract 2 s.size).data.toList)) := by unfold Hid; rw [HR.out, hl, ext_tail]
          clear h120 hl
          go_wp2
          go_meet
          case rel => exact ⟨s.extract 2 s.size, 16, 16, rfl, rfl, rfl, by omega, by omega, HX, by simp, rfl⟩
        · have n120 : ((s[1].toNat : Int) == 120) = false := byte_ne (n := 120) (by decide) h120
          by_cases h111 : s[1] = 111
          · have hl : letR s[1] = 8 := by rw [h111]; rfl
            have hb : (s[1].toNat : Int) = 111 := by rw [h111]; rfl
            have HX : Hid (radN s.data.toList = (8, (s.extract 2 s.size).data.toList)) := by unfold Hid; rw [HR.out, hl, ext_tail]
            clear h111 hl
            go_wp2
            go_meet
            case rel => exact ⟨s.extract 2 s.size, 8, 8, rfl, rfl, rfl, by omega, by omega, HX, by simp, rfl⟩
          · have n111 : ((s[1].toNat : Int) == 111) = false := byte_ne (n := 111) (by decide) h111
            by_cases h98 : s[1] = 98
            · have hl : letR s[1] = 2 := by rw [h98]; rfl
              have hb : (s[1].toNat : Int) = 98 := by rw [h98]; rfl
              have HX : Hid (radN s.data.toList = (2, (s.extract 2 s.size).data.toList)) := by unfold Hid; rw [HR.out, hl, ext_tail]
              clear h98 hl
              go_wp2
              go_meet
              case rel => exact ⟨s.extract 2 s.size, 2, 2, rfl, rfl, rfl, by omega, by omega, HX, by simp, rfl⟩
            · have n98 : ((s[1].toNat : Int) == 98) = false := byte_ne (n := 98) (by decide) h98
              by_cases h100 : s[1] = 100
              · have hl : letR s[1] = 10 := by rw [h100]; rfl
                have hb : (s[1].toNat : Int) = 100 := by rw [h100]; rfl
                have HX : Hid (radN s.data.toList = (10, (s.extract 2 s.size).data.toList)) := by unfold Hid; rw [HR.out, hl, ext_tail]
                clear h100 hl
                go_wp2
                go_meet
                case rel => exact ⟨s.extract 2 s.size, 10, 10, rfl, rfl, rfl, by omega, by omega, HX, by simp, rfl⟩
              · have n100 : ((s[1].toNat : Int) == 100) = false := byte_ne (n := 100) (by decide) h100
                have HN : Hid (rdOkN s.data.toList = false) := by
                  have h0 : rdRad s.data.toList = 0 := by unfold rdRad; rw [HR.out]; show letR s[1] = 0; unfold letR; rw [if_neg h120, if_neg h111, if_neg h98, if_neg h100]
                  unfold Hid rdOkN; rw [h0]; simp
                clear h120 h111 h98 h100
                go_wp2
                (try simp only [Exit.inBlock, Exit.then]); refine bodyPost_ret (results_tmp2 rfl _ _ _) rfl ?_
                exact ⟨.inr ⟨HN.out, rfl⟩, Below.refl _ _⟩
      | false =>
        have HX := hideT' (hsh_no HH.out.symm)
        go_wp2
        go_meet
        case rel => exact ⟨s, 10, 10, rfl, rfl, rfl, by omega, by omega, HX, Nat.le_refl _, rfl⟩
    case rest =>
      obtain ⟨t, b, r, rfl, rfl, hrb, hr0, hr1, HR, hts, rfl⟩ := hcut
      have HRB := hideT' hrb
      clear hrb HH hh
      go_upto_region 14 with fail
      go_cut [45] (fun x wx => x = .bool (sgd t) ∧ wx = wc)
      case first =>
        by_cases h0 : 0 < t.size
        · have h0' : (0 : Int) < (t.size : Int) := by omega
          by_cases h43 : t[0] = 43
          · have hb : (t[0].toNat : Int) = 43 := by rw [h43]; rfl
            have HX : Hid (sgd t = true) := by unfold Hid; rw [sgd_of h0, h43]; rfl
            clear h43
            go_wp2
            go_meet
            case rel => exact ⟨by rw [HX.out], rfl⟩
          · have n43 : ((t[0].toNat : Int) == 43) = false := byte_ne (n := 43) (by decide) h43
            by_cases h45 : t[0] = 45
            · have hb : (t[0].toNat : Int) = 45 := by rw [h45]; rfl
              have HX : Hid (sgd t = true) := by unfold Hid; rw [sgd_of h0, h45]; rfl
              clear h43 h45 n43
              go_wp2
              go_meet
              case rel => exact ⟨by rw [HX.out], rfl⟩
            · have n45 : ((t[0].toNat : Int) == 45) = false := byte_ne (n := 45) (by decide) h45
              have HX : Hid (sgd t = false) := by unfold Hid; rw [sgd_of h0]; simp [h43, h45]
              clear h43 h45
              go_wp2
              go_meet
              case rel => exact ⟨by rw [HX.out], rfl⟩
        · have h0' : ¬ (0 : Int) < (t.size : Int) := by omega
          have HX : Hid (sgd t = false) := by unfold Hid sgd; rw [decide_eq_false h0]; rfl
          go_wp2
          go_meet
          case rel => exact ⟨by rw [HX.out], rfl⟩
      case rest =>
        obtain ⟨rfl, rfl⟩ := hcut
        obtain ⟨hh, hhd⟩ : ∃ hh, hh = sgd t := ⟨_, rfl⟩
        rw [← hhd]
        have HH := hideT' hhd
        clear hhd
        go_upto_if 45 with fail
        go_cut [0, 5] (fun x y wx => ∃ (u : ByteArray) (g : Bool), x = .string u ∧ y = .bool g ∧ Hid (sigN t.data.toList = (g, u.data.toList)) ∧ u.size ≤ t.size ∧ wx = wc)
        case first =>
          cases hh with
          | true =>
            obtain ⟨h0, hr⟩ := sgd_yes HH.out.symm
            have h0' : (0 : Int) < (t.size : Int) := by omega
            have h1' : (1 : Int) ≤ (t.size : Int) := by omega
            cases h45 : (t[0] == 45) with
            | true =>
              have hb : (t[0].toNat : Int) = 45 := by rw [eq_of_beq h45]; rfl
              have HX : Hid (sigN t.data.toList = (true, (t.extract 1 t.size).data.toList)) := by unfold Hid; rw [hr, h45, ext_tail]
              clear hr h45
              go_wp2
              go_meet
              case rel => exact ⟨t.extract 1 t.size, true, rfl, rfl, HX, by simp, rfl⟩
            | false =>
              have hb : ((t[0].toNat : Int) == 45) = false := byte_ne (n := 45) (by decide) (by simpa using h45)
              have HX : Hid (sigN t.data.toList = (false, (t.extract 1 t.size).data.toList)) := by unfold Hid; rw [hr, h45, ext_tail]
              clear hr h45
              go_wp2
              go_meet
              case rel => exact ⟨t.extract 1 t.size, false, rfl, rfl, HX, by simp, rfl⟩
          | false =>
            have HX := hideT' (sgd_no HH.out.symm)
            go_wp2
            go_meet
            case rel => exact ⟨t, false, rfl, rfl, HX, Nat.le_refl _, rfl⟩
        case rest =>
          obtain ⟨u, g, rfl, rfl, HS, hus, rfl⟩ := hcut
          clear HH hh
          go_wp2_with fail
          refine (l2Cut_any u _ (by unfold maxLen; omega)).mono ?_
          rintro e w2 ⟨⟨o, v, rfl, ho, hv⟩, hW2⟩
          obtain ⟨tb, htb⟩ : ∃ tb, tb = (cut47 u.data.toList).2.2 := ⟨_, rfl⟩
          rw [← htb]
          have e1 : (radN s.data.toList).1 = b := by rw [HR.out]
          have e2 : (radN s.data.toList).2 = t.data.toList := by rw [HR.out]
          have HO : Hid (o.data.toList = rdTop s.data.toList ∧ rdRad s.data.toList = b ∧ rdNeg s.data.toList = g) := by
            refine ⟨?_, e1, ?_⟩
            · unfold rdTop; rw [e2, HS.out, ho]
            · unfold rdNeg; rw [e2, HS.out]
          have HV : Hid (rdBot s.data.toList = if tb then v.data.toList else [49]) := by
            unfold Hid rdBot; rw [e2, HS.out, ← htb, hv]
          clear e1 e2
          clear ho hv htb
          go_upto_if 58 with fail
          go_cut [7] (fun x wx => ∃ z : ByteArray, x = .string z ∧ Hid (z.data.toList = rdBot s.data.toList) ∧ wx = w2)
          case first =>
            cases tb with
            | true =>
              have HX : Hid (v.data.toList = rdBot s.data.toList) := by unfold Hid; rw [HV.out]; rfl
              go_wp2
              go_meet
              case rel => exact ⟨v, rfl, HX, rfl⟩
            | false =>
              have HX : Hid ((⟨#[49]⟩ : ByteArray).data.toList = rdBot s.data.toList) := by unfold Hid; rw [HV.out]; rfl
              go_wp2
              go_meet
              case rel => exact ⟨⟨#[49]⟩, rfl, HX, rfl⟩
          case rest =>
            obtain ⟨z, rfl, HZ, rfl⟩ := hcut
            have HK : Hid (rdOkN s.data.toList = ((decide (b ≠ 0) && (rdDig b o.data.toList && rdDig b z.data.toList)) && decide (rval b z.data.toList ≠ 0))) := by
              unfold Hid rdOkN; rw [HO.out.2.1, ← HO.out.1, ← HZ.out]
            by_cases ho6 : o.size ≤ 600
            · by_cases hz6 : z.size ≤ 600
              · have ho6' : ¬ (600 : Int) < (o.size : Int) := by omega
                have hz6' : ¬ (600 : Int) < (z.size : Int) := by omega
                go_wp2_with fail
                refine (l1OfRadix_any o b r _ (by omega) HRB.out hr0 hr1).mono ?_
                rintro e w3 ⟨⟨t1, rfl, hc1, _⟩, hW3⟩
                obtain ⟨p1, hp1⟩ : ∃ p1, p1 = (decide (0 < o.size) && rdigs b o.data.toList) := ⟨_, rfl⟩
                rw [← hp1]
                have HP1 : Hid (rdDig b o.data.toList = p1) := by unfold Hid; rw [hp1]; exact rdDig_eq ho6
                have HC1 : Hid (p1 = true → canonB t1.data.toList = true ∧ dval t1.data.toList = rval b o.data.toList) := fun h => hc1 (by rw [h] at hp1; simp at hp1; exact hp1.2)
                have hB3 := hW2.trans (hW3.mono hW2.size)
                clear hp1 hc1
                go_wp2_with fail
                refine (l1OfRadix_any z b r _ (by omega) HRB.out hr0 hr1).mono ?_
                rintro e w4 ⟨⟨t2, rfl, hc2, _⟩, hW4⟩
                obtain ⟨p2, hp2⟩ : ∃ p2, p2 = (decide (0 < z.size) && rdigs b z.data.toList) := ⟨_, rfl⟩
                rw [← hp2]
                have HP2 : Hid (rdDig b z.data.toList = p2) := by unfold Hid; rw [hp2]; exact rdDig_eq hz6
                have HC2 : Hid (p2 = true → canonB t2.data.toList = true ∧ dval t2.data.toList = rval b z.data.toList) := fun h => hc2 (by rw [h] at hp2; simp at hp2; exact hp2.2)
                have hB4 := hB3.trans (hW4.mono hB3.size)
                clear hp2 hc2
                cases p1 with
                | false =>
                  have HN : Hid (rdOkN s.data.toList = false) := by unfold Hid; rw [HK.out, HP1.out]; simp
                  go_wp2
                  go_ret2
                  exact ⟨.inr ⟨HN.out, rfl⟩, hB4⟩
                | true =>
                  cases p2 with
                  | false =>
                    have HN : Hid (rdOkN s.data.toList = false) := by unfold Hid; rw [HK.out, HP2.out]; simp
                    go_wp2
                    go_ret2
                    exact ⟨.inr ⟨HN.out, rfl⟩, hB4⟩
                  | true =>
                    obtain ⟨c1, v1⟩ := HC1.out rfl
                    obtain ⟨c2, v2⟩ := HC2.out rfl
                    have hb16 : b ≤ 16 := by have := HRB.out; omega
                    have hb0 : b ≠ 0 := by have := HRB.out; omega
                    have s1 : t1.size ≤ 1200 := rad_size hb16 ho6 (rdDig_digs HP1.out) c1 v1
                    have s2 : t2.size ≤ 1200 := rad_size hb16 hz6 (rdDig_digs HP2.out) c2 v2
                    have HCC := hideT' (And.intro (And.intro c1 v1) (And.intro c2 v2))
                    have HB := hideT' hb0
                    clear c1 v1 c2 v2 hb16 hb0
                    by_cases hz0 : t2.data.toList = [48]
                    · have hz0' : (t2.toList == [48]) = true := str_eq hz0
                      have HN : Hid (rdOkN s.data.toList = false) := by
                        have : rval b z.data.toList = 0 := by rw [← HCC.out.2.2, hz0]; decide
                        unfold Hid; rw [HK.out, this]; simp
                      clear hz0
                      go_wp2
                      go_ret2
                      exact ⟨.inr ⟨HN.out, rfl⟩, hB4⟩
                    · have hz0' : (t2.toList == [48]) = false := str_ne hz0
                      have HD : Hid (dval t2.data.toList ≠ 0) := fun e => hz0 ((canon_zero HCC.out.2.1).1 e)
                      clear hz0
                      go_wp2_with fail
                      refine (l2Make_any g t1 t2 _ (by omega) (by omega) HCC.out.1.1 HCC.out.2.1 HD.out).mono ?_
                      rintro e w5 ⟨hTN, hW5⟩
                      have HI : Hid (ReadAns s e) := by
                        refine .inl ⟨?_, ?_⟩
                        · rw [HK.out, HP1.out, HP2.out, decide_eq_true HB.out, decide_eq_true (by rw [← HCC.out.2.2]; exact HD.out)]; rfl
                        · rw [HO.out.2.1, HO.out.2.2, ← HO.out.1, ← HZ.out, ← HCC.out.1.2, ← HCC.out.2.2]
                          exact hTN
                      obtain ⟨s5, o5, rfl⟩ := hTN.form3
                      have hB5 := hB4.trans (hW5.mono hB4.size)
                      clear hTN
                      go_wp2
                      go_ret2
                      exact ⟨HI.out, hB5⟩
              · have ho6' : ¬ (600 : Int) < (o.size : Int) := by omega
                have hz6' : (600 : Int) < (z.size : Int) := by omega
                have HN : Hid (rdOkN s.data.toList = false) := by unfold Hid; rw [HK.out, rdDig_long hz6]; simp
                go_wp2
                go_ret2
                exact ⟨.inr ⟨HN.out, rfl⟩, hW2⟩
            · have ho6' : (600 : Int) < (o.size : Int) := by omega
              have HN : Hid (rdOkN s.data.toList = false) := by unfold Hid; rw [HK.out, rdDig_long ho6]; simp
              go_wp2
              go_ret2
              exact ⟨.inr ⟨HN.out, rfl⟩, hW2⟩

end Go.Proofs.YtnmofolhfbldjaaGreatDoor

/-
  What impl.ReadNum reads behind the radix's sign: plain facts, and what cutRadix and cutSign of impl answer.
-/
namespace Go.Proofs.YtnmofolhfbldjaaGreatDoor
open Go.RowKit
set_option linter.unusedVariables false

def coTop (l : List UInt8) : List UInt8 := (cut47 (sigN l).2).1
def coUnd (l : List UInt8) : List UInt8 := (cut47 (sigN l).2).2.1
def coBrk (l : List UInt8) : Bool := (cut47 (sigN l).2).2.2
def coBot (l : List UInt8) : List UInt8 := if coBrk l then coUnd l else [49]
def coOk (b : Nat) (l : List UInt8) : Bool := (rdDig b (coTop l) && rdDig b (coBot l)) && decide (rval b (coBot l) ≠ 0)
/-- The radix and what stands behind its sign; where a # is none, the text as it is, which no digits are. -/
def RadCut (l : List UInt8) (b : Nat) (t : List UInt8) : Prop := radN l = (b, t) ∨ (b = 10 ∧ t = l ∧ l.head? = some 35 ∧ rdRad l = 0)

theorem coOk_of {l t : List UInt8} {b : Nat} (h : RadCut l b t) (hb : b ≠ 0) : rdOkN l = coOk b t := by
  rcases h with h | ⟨rfl, rfl, h1, h2⟩
  · unfold rdOkN coOk rdTop rdBot rdRad coTop coBot coUnd coBrk
    rw [h]
    simp [hb]
  · have e1 : rdOkN t = false := by unfold rdOkN; rw [h2]; rfl
    rw [e1]
    obtain ⟨m, rfl⟩ : ∃ m, t = 35 :: m := by
      cases t with
      | nil => cases h1
      | cons c m => simp at h1; exact ⟨m, by rw [h1]⟩
    have e2 : coTop (35 :: m) = 35 :: (cut47 m).1 := rfl
    have e3 : rdigs 10 (35 :: (cut47 m).1) = false := by
      unfold rdigs
      rw [List.all_cons]
      have : decide (dg 35 < 10) = false := by decide
      rw [this]; rfl
    unfold coOk rdDig
    rw [e2, e3]; simp

theorem ReadAns.mk' {s t : ByteArray} {b : Nat} (h : RadCut s.data.toList b t.data.toList) (hb : b ≠ 0) {e : Ending}
    (he : (coOk b t.data.toList = true ∧ TellsN ((sigN t.data.toList).1 && decide (rval b (coTop t.data.toList) ≠ 0)) (rval b (coTop t.data.toList) / Nat.gcd (rval b (coTop t.data.toList)) (rval b (coBot t.data.toList))) (rval b (coBot t.data.toList) / Nat.gcd (rval b (coTop t.data.toList)) (rval b (coBot t.data.toList))) e) ∨ (coOk b t.data.toList = false ∧ Mute e)) : ReadAns s e := by
  rcases he with ⟨ho, he⟩ | ⟨ho, he⟩
  · refine .inl ⟨by rw [coOk_of h hb]; exact ho, ?_⟩
    rcases h with h | ⟨rfl, h0, h1, h2⟩
    · unfold rdNeg rdTop rdBot rdRad
      rw [h]
      exact he
    · have := coOk_of (.inr ⟨rfl, h0, h1, h2⟩ : RadCut s.data.toList 10 t.data.toList) hb
      rw [ho] at this
      unfold rdOkN at this
      rw [h2] at this
      cases this
  · exact .inr ⟨by rw [coOk_of h hb]; exact ho, he⟩

theorem below_drewN {B : Nat} {a w : World} (h : Below B a w) (n : Nat) : Below B a (w.drewN n) := ⟨h.os, h.tape, h.output, h.size, h.block⟩
theorem ten_le {n : Nat} (a b : Nat) (hab : a ≤ b) (h : n < 10 ^ a) : n < 10 ^ b := Nat.lt_of_lt_of_le h (Nat.pow_le_pow_right (by decide) hab)
theorem rdOk_dig {b : Nat} {o : ByteArray} (hb : b ≤ 16) (h : o.size ≤ 600) : rdOk b o = rdDig b o.data.toList := by
  rw [rdDig_eq h]
  unfold rdOk
  rw [decide_eq_true (show o.size ≤ 2000 by omega), Bool.and_true]
  cases hd : rdigs b o.data.toList with
  | false => rw [Bool.false_and, Bool.and_false, Bool.and_false]
  | true =>
    have hl : o.data.toList.length = o.size := by simp
    have h1 := rval_lt b o.data.toList hd
    rw [hl] at h1
    have h3 : rval b o.data.toList < 10 ^ 1200 := ten_le (2 * o.size) 1200 (by omega) (Nat.lt_of_lt_of_le h1 (rad_pow hb))
    rw [decide_eq_true h3]
    by_cases h0 : 0 < o.size
    · rw [decide_eq_true h0, decide_eq_true (show 1 ≤ o.size by omega)]; rfl
    · rw [decide_eq_false h0, decide_eq_false (show ¬ 1 ≤ o.size by omega)]; rfl

set_option maxHeartbeats 1000000 in
set_option maxRecDepth 100000 in
theorem cutRadix_any (s : ByteArray) (w : World) (hs : s.size ≤ maxLen) :
    Calls Tryz.prog 75 #[.string s] w fun e w' => (∃ (t : ByteArray) (b : Nat) (r : Int), e = .returned (.tuple #[.int .i64 r, .string t]) ∧ r = (b : Int) ∧ 2 ≤ r ∧ r ≤ 16 ∧ RadCut s.data.toList b t.data.toList ∧ t.size ≤ s.size) ∧ Below w.heap.size w w' := by
  unfold maxLen at hs
  cases hh : hsh s with
  | false =>
    have HX := hideT' (hsh_no hh)
    by_cases h1 : 1 < s.size
    · have h1' : ¬ (s.size : Int) < 2 := by omega
      have h0 : 0 < s.size := by omega
      rw [hsh_of h1] at hh
      have h35' : ((s[0].toNat : Int) == 35) = false := byte_ne (n := 35) (by decide) (by simpa using hh)
      clear hh
      go_enter Tryz.func75, Tryz.ntmps75
      go_wp2
      go_ret2
      exact ⟨⟨s, 10, 10, rfl, rfl, by omega, by omega, .inl HX.out, Nat.le_refl _⟩, Below.refl _ _⟩
    · have h1' : (s.size : Int) < 2 := by omega
      clear hh
      go_enter Tryz.func75, Tryz.ntmps75
      go_wp2
      go_ret2
      exact ⟨⟨s, 10, 10, rfl, rfl, by omega, by omega, .inl HX.out, Nat.le_refl _⟩, Below.refl _ _⟩
  | true =>
    obtain ⟨h1, hr⟩ := hsh_yes hh
    have h0 : 0 < s.size := by omega
    have h1' : ¬ (s.size : Int) < 2 := by omega
    have h2' : (2 : Int) ≤ (s.size : Int) := by omega
    have hh' := hh
    rw [hsh_of h1] at hh'
    have h35' : (s[0].toNat : Int) = 35 := by rw [eq_of_beq hh']; rfl
    have H35 : Hid (s.data.toList.head? = some 35) := by
      unfold Hid; rw [List.head?_eq_getElem?, getN 0 h0, eq_of_beq hh']
    have HR : Hid (radN s.data.toList = (letR s[1], s.data.toList.drop 2)) := by
      unfold Hid; rw [hr]; simp [List.getD, getN 1 h1]
    clear hr hh hh'
    by_cases h120 : s[1] = 120
    · have hl : letR s[1] = 16 := by rw [h120]; rfl
      have hb : (s[1].toNat : Int) = 120 := by rw [h120]; rfl
      have HX : Hid (radN s.data.toList = (16, (s.extract 2 s.size).data.toList)) := by unfold Hid; rw [HR.out, hl, ext_tail]
      clear h120 hl
      go_enter Tryz.func75, Tryz.ntmps75
      go_wp2_with fail
      go_quiet (fail)
      go_wp2
      (try simp only [Exit.inBlock, Exit.then]); refine bodyPost_ret (results_tmp2 rfl _ _ _) rfl ?_
      exact ⟨⟨s.extract 2 s.size, 16, 16, rfl, rfl, by omega, by omega, .inl HX.out, by simp⟩, below_drewN (Below.refl _ _) _⟩
    · have n120 : ((s[1].toNat : Int) == 120) = false := byte_ne (n := 120) (by decide) h120
      by_cases h111 : s[1] = 111
      · have hl : letR s[1] = 8 := by rw [h111]; rfl
        have hb : (s[1].toNat : Int) = 111 := by rw [h111]; rfl
        have HX : Hid (radN s.data.toList = (8, (s.extract 2 s.size).data.toList)) := by unfold Hid; rw [HR.out, hl, ext_tail]
        clear h111 hl n120 h120
        go_enter Tryz.func75, Tryz.ntmps75
        go_wp2_with fail
        go_quiet (fail)
        go_wp2
        (try simp only [Exit.inBlock, Exit.then]); refine bodyPost_ret (results_tmp2 rfl _ _ _) rfl ?_
        exact ⟨⟨s.extract 2 s.size, 8, 8, rfl, rfl, by omega, by omega, .inl HX.out, by simp⟩, below_drewN (Below.refl _ _) _⟩
      · have n111 : ((s[1].toNat : Int) == 111) = false := byte_ne (n := 111) (by decide) h111
        by_cases h98 : s[1] = 98
        · have hl : letR s[1] = 2 := by rw [h98]; rfl
          have hb : (s[1].toNat : Int) = 98 := by rw [h98]; rfl
          have HX : Hid (radN s.data.toList = (2, (s.extract 2 s.size).data.toList)) := by unfold Hid; rw [HR.out, hl, ext_tail]
          clear h98 hl n120 h120 n111 h111
          go_enter Tryz.func75, Tryz.ntmps75
          go_wp2_with fail
          go_quiet (fail)
          go_wp2
          (try simp only [Exit.inBlock, Exit.then]); refine bodyPost_ret (results_tmp2 rfl _ _ _) rfl ?_
          exact ⟨⟨s.extract 2 s.size, 2, 2, rfl, rfl, by omega, by omega, .inl HX.out, by simp⟩, below_drewN (Below.refl _ _) _⟩
        · have n98 : ((s[1].toNat : Int) == 98) = false := byte_ne (n := 98) (by decide) h98
          by_cases h100 : s[1] = 100
          · have hl : letR s[1] = 10 := by rw [h100]; rfl
            have hb : (s[1].toNat : Int) = 100 := by rw [h100]; rfl
            have HX : Hid (radN s.data.toList = (10, (s.extract 2 s.size).data.toList)) := by unfold Hid; rw [HR.out, hl, ext_tail]
            clear h100 hl n120 h120 n111 h111 n98 h98
            go_enter Tryz.func75, Tryz.ntmps75
            go_wp2_with fail
            go_quiet (fail)
            go_wp2
            (try simp only [Exit.inBlock, Exit.then]); refine bodyPost_ret (results_tmp2 rfl _ _ _) rfl ?_
            exact ⟨⟨s.extract 2 s.size, 10, 10, rfl, rfl, by omega, by omega, .inl HX.out, by simp⟩, below_drewN (Below.refl _ _) _⟩
          · have n100 : ((s[1].toNat : Int) == 100) = false := byte_ne (n := 100) (by decide) h100
            have HN : Hid (rdRad s.data.toList = 0) := by
              unfold Hid rdRad; rw [HR.out]; show letR s[1] = 0; unfold letR; rw [if_neg h120, if_neg h111, if_neg h98, if_neg h100]
            clear h120 h111 h98 h100
            go_enter Tryz.func75, Tryz.ntmps75
            go_wp2
            go_ret2
            exact ⟨⟨s, 10, 10, rfl, rfl, by omega, by omega, .inr ⟨rfl, rfl, H35.out, HN.out⟩, Nat.le_refl _⟩, Below.refl _ _⟩

set_option maxHeartbeats 1000000 in
set_option maxRecDepth 100000 in
theorem cutSign_any (s : ByteArray) (w : World) (hs : s.size ≤ maxLen) :
    Calls Tryz.prog 76 #[.string s] w fun e w' => (∃ t : ByteArray, e = .returned (.tuple #[.bool (sigN s.data.toList).1, .string t]) ∧ t.data.toList = (sigN s.data.toList).2 ∧ t.size ≤ s.size) ∧ Below w.heap.size w w' := by
  unfold maxLen at hs
  by_cases h0 : 0 < s.size
  · have h0' : (1 : Int) ≤ (s.size : Int) := by omega
    have hl : s.data.toList.length = s.size := by simp
    have hne : (s.toList == []) = false := str_ne (fun e => by rw [e] at hl; simp at hl; omega)
    clear hl
    have HS := hideT' (sigN_of h0)
    by_cases h45 : s[0] = 45
    · have hb : (s[0].toNat : Int) = 45 := by rw [h45]; rfl
      have HX : Hid ((sigN s.data.toList).1 = true ∧ (s.extract 1 s.size).data.toList = (sigN s.data.toList).2) := by
        unfold Hid; rw [HS.out, if_pos h45, ext_tail]; exact ⟨rfl, rfl⟩
      clear h45
      go_enter Tryz.func76, Tryz.ntmps76
      go_wp2_with fail
      go_quiet (fail)
      go_wp2
      go_ret2
      exact ⟨⟨s.extract 1 s.size, by rw [HX.out.1]; rfl, HX.out.2, by simp⟩, below_drewN (Below.refl _ _) _⟩
    · have n45 : ((s[0].toNat : Int) == 45) = false := byte_ne (n := 45) (by decide) h45
      by_cases h43 : s[0] = 43
      · have hb : (s[0].toNat : Int) = 43 := by rw [h43]; rfl
        have HX : Hid ((sigN s.data.toList).1 = false ∧ (s.extract 1 s.size).data.toList = (sigN s.data.toList).2) := by
          unfold Hid; rw [HS.out, if_neg h45, if_pos h43, ext_tail]; exact ⟨rfl, rfl⟩
        clear h45 h43 n45
        go_enter Tryz.func76, Tryz.ntmps76
        go_wp2_with fail
        go_quiet (fail)
        go_wp2
        go_ret2
        exact ⟨⟨s.extract 1 s.size, by rw [HX.out.1]; rfl, HX.out.2, by simp⟩, below_drewN (Below.refl _ _) _⟩
      · have n43 : ((s[0].toNat : Int) == 43) = false := byte_ne (n := 43) (by decide) h43
        have HX : Hid ((sigN s.data.toList).1 = false ∧ s.data.toList = (sigN s.data.toList).2) := by
          unfold Hid; rw [HS.out, if_neg h45, if_neg h43]; exact ⟨rfl, rfl⟩
        clear h45 h43
        go_enter Tryz.func76, Tryz.ntmps76
        go_wp2
        go_ret2
        exact ⟨⟨s, by rw [HX.out.1]; rfl, HX.out.2, Nat.le_refl _⟩, Below.refl _ _⟩
  · have hl : s.data.toList.length = s.size := by simp
    have he : s.data.toList = [] := List.length_eq_zero_iff.1 (by omega)
    have hne : (s.toList == []) = true := str_eq he
    have HX : Hid ((sigN s.data.toList).1 = false ∧ s.data.toList = (sigN s.data.toList).2) := by
      unfold Hid; rw [sigN_none h0]; exact ⟨rfl, rfl⟩
    clear hl he
    go_enter Tryz.func76, Tryz.ntmps76
    go_wp2
    go_ret2
    exact ⟨⟨s, by rw [HX.out.1]; rfl, HX.out.2, Nat.le_refl _⟩, Below.refl _ _⟩
end Go.Proofs.YtnmofolhfbldjaaGreatDoor

/-
  What impl.ReadNum answers.
-/
namespace Go.Proofs.YtnmofolhfbldjaaGreatDoor
open Go.RowKit
set_option linter.unusedVariables false

theorem len_le {s : ByteArray} {n : Nat} (h : s.data.toList.length ≤ n) : s.size ≤ n := by simpa using h

set_option maxHeartbeats 2000000 in
set_option maxRecDepth 100000 in
theorem implReadNum_any (s : ByteArray) (w : World) (hs : s.size ≤ maxLen) (hT : Tab w.heap.size w) :
    Calls Tryz.prog 60 #[.string s] w fun e w' => ReadAns s e ∧ Below w.heap.size w w' := by
  have hz := zero_nat.1
  have HT : Hid (Tab w.heap.size w) := hT
  clear hT
  go_enter Tryz.func60, Tryz.ntmps60
  go_wp2_with fail
  refine (cutRadix_any s _ hs).mono ?_
  rintro e w0 ⟨⟨t, b, r, rfl, hrb, hr0, hr1, hRC, hts⟩, hW0⟩
  have HRC := hideT' hRC
  have HRB := hideT' hrb
  have HBB : Hid (b ≠ 0) := by unfold Hid; omega
  clear hRC hrb
  go_wp2_with fail
  refine (cutSign_any t _ (Nat.le_trans hts hs)).mono ?_
  rintro e w1 ⟨⟨u, rfl, hu, hus⟩, hW1⟩
  have HU := hideT' hu
  clear hu
  obtain ⟨ng, hng⟩ : ∃ ng, ng = (sigN t.data.toList).1 := ⟨_, rfl⟩
  rw [← hng]
  have HNG := hideT' hng
  clear hng
  go_wp2_with fail
  refine (cut_any u _ (Nat.le_trans hus (Nat.le_trans hts hs))).mono ?_
  rintro e w2 ⟨o, v, rfl, ho, hv, hW2⟩
  have hW2 : Below w.heap.size w w2 := hW0.trans ((hW1.trans (hW2.mono hW1.size)).mono hW0.size)
  clear hW0 hW1
  have hul : u.data.toList.length = u.size := by simp
  have hcs := cut_size u.data.toList
  have hos : o.size ≤ maxLen := len_le (by rw [ho]; omega)
  have hvs : v.size ≤ maxLen := len_le (by rw [hv]; omega)
  rw [HU.out] at ho hv ⊢
  have HO : Hid (o.data.toList = coTop t.data.toList) := ho
  have HV : Hid (v.data.toList = coUnd t.data.toList) := hv
  obtain ⟨bk, hbk⟩ : ∃ bk, bk = (cut47 (sigN t.data.toList).2).2.2 := ⟨_, rfl⟩
  rw [← hbk]
  have HBK : Hid (bk = coBrk t.data.toList) := hbk
  clear ho hv hul hcs hbk HU hs hts hus
  go_upto_if 30 with fail
  go_cut [7] (fun x wx => ∃ bt : ByteArray, x = .string bt ∧ Hid (bt.data.toList = coBot t.data.toList) ∧ bt.size ≤ maxLen ∧ wx = w2)
  case first =>
    cases bk with
    | true =>
      have HX : Hid (v.data.toList = coBot t.data.toList) := by unfold Hid coBot; rw [← HBK.out, if_pos rfl]; exact HV.out
      go_wp2
      go_meet
      case rel => exact ⟨v, rfl, HX, hvs, rfl⟩
    | false =>
      have HX : Hid (([49] : List UInt8) = coBot t.data.toList) := by unfold Hid coBot; rw [← HBK.out]; rfl
      go_wp2
      go_meet
      case rel => exact ⟨⟨#[49]⟩, rfl, HX, by decide, rfl⟩
  case rest =>
    obtain ⟨bt, rfl, HBT, hbs, rfl⟩ := hcut
    clear HV HBK hvs
    have NO : Hid (coOk b t.data.toList = false → ReadAns s (.returned (.tuple #[.string ⟨#[]⟩, .bool false]))) := fun h => ReadAns.mk' HRC.out HBB.out (.inr ⟨h, rfl⟩)
    by_cases h6 : (o.size : Int) ≤ 600 ∧ (bt.size : Int) ≤ 600
    · obtain ⟨h61, h62⟩ := h6
      have n61 : ¬ (600 : Int) < (o.size : Int) := by omega
      have n62 : ¬ (600 : Int) < (bt.size : Int) := by omega
      have HD1 : Hid (rdOk b o = rdDig b (coTop t.data.toList)) := by unfold Hid; rw [rdOk_dig (by have := HRB.out; omega) (by omega), HO.out]
      have HD2 : Hid (rdOk b bt = rdDig b (coBot t.data.toList)) := by unfold Hid; rw [rdOk_dig (by have := HRB.out; omega) (by omega), HBT.out]
      go_wp2_with fail
      refine (readDigits_any o b r _ hos HRB.out hr0 hr1).mono ?_
      rintro e w3 ⟨k, p, rfl, hp, hRp, hW3⟩
      have hs2 := hW2.size
      have hs3 := hW3.size
      have A := NatAt.new w3 0 zP
      have hB3 : Below w.heap.size w (w3.alloc (.cells (natC 0 zP) 97)) := (hW2.trans (hW3.mono hs2)).alloc (by omega) _
      obtain ⟨oa, hoa⟩ : ∃ oa, oa = rdOk b o := ⟨_, rfl⟩
      rw [← hoa] at hRp ⊢
      have HRP : Hid (oa = true → Rep (rval b o.data.toList) k p) := hRp
      have HOA : Hid (oa = rdDig b (coTop t.data.toList)) := by unfold Hid; rw [hoa]; exact HD1.out
      clear hRp hoa HD1
      go_wp2_with (refine store_nat rfl _ _ rfl rfl w3.heap.size k p rfl rfl 0 zP A zP_len hp ?_; intro w4 hN4 hg4 hs4)
      have hB4 : Below w.heap.size w w4 := hB3.grown hg4 (by simp; omega) (by intro k hk; cases hk; omega)
      have hs4' : w4.heap.size = w3.heap.size + 1 := by rw [hs4]; simp
      clear A hB3 hg4 hs4
      refine (readDigits_any bt b r _ hbs HRB.out hr0 hr1).mono ?_
      rintro e w5 ⟨m, q, rfl, hq, hRq, hW5⟩
      have hs5 := hW5.size
      have hN5 := hN4.below hW5 (by omega)
      have B := NatAt.new w5 0 zP
      have hB5 : Below w.heap.size w (w5.alloc (.cells (natC 0 zP) 97)) := (hB4.trans (hW5.mono hB4.size)).alloc (by omega) _
      obtain ⟨ob, hob⟩ : ∃ ob, ob = rdOk b bt := ⟨_, rfl⟩
      rw [← hob] at hRq ⊢
      have HRQ : Hid (ob = true → Rep (rval b bt.data.toList) m q) := hRq
      have HOB : Hid (ob = rdDig b (coBot t.data.toList)) := by unfold Hid; rw [hob]; exact HD2.out
      have hN6 := hN5.old (.cells (natC 0 zP) 97)
      clear hRq hob HD2 hN4 hB4 hW5 hN5
      cases oa with
      | false =>
        have HF := hideT' (NO.out (by unfold coOk; rw [← HOA.out]; rfl))
        go_wp2_with (refine store_nat rfl _ _ rfl rfl w5.heap.size m q rfl rfl 0 zP B zP_len hq ?_; intro w6 hM6 hg6 hs6; have c0 := hM6.c0)
        go_ret2
        exact ⟨HF.out, hB5.grown hg6 (by simp; omega) (by intro k hk; cases hk; omega)⟩
      | true =>
        cases ob with
        | false =>
          have HF := hideT' (NO.out (by unfold coOk; rw [← HOB.out, Bool.and_false]; rfl))
          go_wp2_with (refine store_nat rfl _ _ rfl rfl w5.heap.size m q rfl rfl 0 zP B zP_len hq ?_; intro w6 hM6 hg6 hs6; have c0 := hM6.c0)
          go_ret2
          exact ⟨HF.out, hB5.grown hg6 (by simp; omega) (by intro k hk; cases hk; omega)⟩
        | true =>
          have RA : Hid (Rep (rval b (coTop t.data.toList)) k p ∧ Rep (rval b (coBot t.data.toList)) m q) := ⟨by rw [← HO.out]; exact HRP.out rfl, by rw [← HBT.out]; exact HRQ.out rfl⟩
          by_cases hm0 : m = 0
          · have HF := hideT' (NO.out (by unfold coOk; rw [RA.out.2.zero_iff.1 hm0, Bool.and_eq_false_iff]; right; rfl))
            have hm0' : ((m : Int) == 0) = true := by simp [hm0]
            subst hm0
            go_wp2_with (refine store_nat rfl _ _ rfl rfl w5.heap.size _ q rfl rfl 0 zP B zP_len hq ?_; intro w6 hM6 hg6 hs6; have c0 := hM6.c0)
            go_ret2
            exact ⟨HF.out, hB5.grown hg6 (by simp; omega) (by intro k hk; cases hk; omega)⟩
          · have hm0' : ((m : Int) == 0) = false := by simp [hm0]
            have HOK : Hid (coOk b t.data.toList = true) := by
              unfold Hid coOk
              have h1 : rval b (coBot t.data.toList) ≠ 0 := fun e => hm0 (RA.out.2.zero_iff.2 e)
              rw [← HOA.out, ← HOB.out, decide_eq_true h1]; rfl
            have HS : Hid (decide (0 < k) = decide (rval b (coTop t.data.toList) ≠ 0)) := by
              unfold Hid
              have h := RA.out.1.zero_iff
              by_cases e : k = 0
              · rw [decide_eq_false (by omega), decide_eq_false (by have := h.1 e; omega)]
              · rw [decide_eq_true (by omega), decide_eq_true (show rval b (coTop t.data.toList) ≠ 0 from fun e' => e (h.2 e'))]
            have hk : k ≤ 202 := by
              have h1 : rdOk b o = true := by rw [rdOk_dig (by have := HRB.out; omega) (by omega), HO.out, ← HOA.out]
              unfold rdOk at h1
              simp only [Bool.and_eq_true, decide_eq_true_eq] at h1
              have := RA.out.1.fits2.2 (by rw [← HO.out]; exact h1.2.2)
              omega
            have hm : m ≤ 202 := by
              have h1 : rdOk b bt = true := by rw [rdOk_dig (by have := HRB.out; omega) (by omega), HBT.out, ← HOB.out]
              unfold rdOk at h1
              simp only [Bool.and_eq_true, decide_eq_true_eq] at h1
              have := RA.out.2.fits2.2 (by rw [← HBT.out]; exact h1.2.2)
              omega
            clear NO HRP HRQ HOA HOB
            go_wp2_with (first | (refine store_nat rfl _ _ rfl rfl w5.heap.size m q rfl rfl 0 zP B zP_len hq ?_; intro w6 hM6 hg6 hs6; have c0 := hM6.c0))
            have hs6' : w6.heap.size = w5.heap.size + 1 := by rw [hs6]; simp
            have hN7 := hN6.grown hg6 (by simp; omega)
            have hB6 : Below w.heap.size w w6 := hB5.grown hg6 (by simp; omega) (by intro k hk; cases hk; omega)
            clear B hB5 hN6 hg6 hs6 c0
            refine held_begin (fun w' => NatAt w' w3.heap.size k p ∧ NatAt w' w5.heap.size m q) (by kernel_rfl) ?_
            have hS : NatAt w6.drew w3.heap.size k p ∧ NatAt w6.drew w5.heap.size m q := ⟨hN7, hM6⟩
            refine held_val 0 (some 62) rfl rfl (by kernel_rfl) (by kernel_rfl) (by kernel_rfl) noPanic_put rfl (.bool ng) (fun _ => rfl) hS ?_
            simp only [Act.put, List.setIfInBounds_toArray, List.set_cons_zero, List.set_cons_succ]
            refine held_load 1 (some 63) rfl rfl (by kernel_rfl) (by kernel_rfl) (by kernel_rfl) noPanic_put rfl _ rfl w3.heap.size rfl k p (fun _ h => h.1) hp hS ?_
            simp only [Act.put, List.setIfInBounds_toArray, List.set_cons_zero, List.set_cons_succ]
            refine held_load 3 (some 65) rfl rfl (by kernel_rfl) (by kernel_rfl) (by kernel_rfl) noPanic_put rfl _ rfl w5.heap.size rfl m q (fun _ h => h.2) hq hS ?_
            simp only [Act.put, List.setIfInBounds_toArray, List.set_cons_zero, List.set_cons_succ]
            refine held_call 2 (some 64) (by kernel_rfl) rfl rfl rfl 81 #[.bool ng, .agg (natC k p)] (by go_simp) _ (wholeOf_any ng k p w6.drew hp) ?_
            rintro e w7 ⟨rfl, hW7⟩
            have hW7 : Below w6.heap.size w6 w7 := ⟨hW7.os, hW7.tape, hW7.output, hW7.size, hW7.block⟩
            have hS7 : NatAt w7 w3.heap.size k p ∧ NatAt w7 w5.heap.size m q := ⟨hN7.below hW7 (by omega), hM6.below hW7 (by omega)⟩
            have hB7 : Below w.heap.size w w7 := hB6.trans (hW7.mono hB6.size)
            have hs7 := hW7.size
            refine ⟨_, rfl, hS7, ?_⟩
            simp only [Act.put, List.setIfInBounds_toArray, List.set_cons_zero, List.set_cons_succ]
            refine held_call 4 (some 66) (by kernel_rfl) rfl rfl rfl 80 #[.agg (wholeC (ng && decide (0 < k)) k p), .agg (natC m q)] (by go_simp) _ (fraction_any (ng && decide (0 < k)) w7 RA.out.1 RA.out.2 (by omega) (by omega) (by omega)) ?_
            rintro e w8 ⟨i, l, r1, s1, rfl, hR1, hR2, hW8⟩
            have hS8 : NatAt w8 w3.heap.size k p ∧ NatAt w8 w5.heap.size m q := ⟨hS7.1.below hW8 (by omega), hS7.2.below hW8 (by omega)⟩
            have hB8 : Below w.heap.size w w8 := hB7.trans (hW8.mono hB7.size)
            have HT8 : Hid (Tab w8.heap.size w8) := (HT.out.on hB8).up hB8.size
            have hs8 := hW8.size
            refine ⟨_, rfl, hS8, ?_⟩
            simp only [Act.put, List.setIfInBounds_toArray, List.set_cons_zero, List.set_cons_succ]
            refine held_call 5 (some 67) (by kernel_rfl) rfl rfl rfl 79 #[.agg (numC (ng && decide (0 < k)) i r1 l s1)] (by go_simp) _ (tellNum_any (ng && decide (0 < k)) w8 hR1 hR2 HT8.out) ?_
            rintro e w9 ⟨hTN, hW9⟩
            have hTN' := hTN
            rw [HS.out, HNG.out] at hTN'
            have HA := hideT' (ReadAns.mk' HRC.out HBB.out (.inl ⟨HOK.out, hTN'⟩))
            obtain ⟨z, zo, rfl⟩ := hTN.form3
            clear hTN hTN'
            have hS9 : NatAt w9 w3.heap.size k p ∧ NatAt w9 w5.heap.size m q := ⟨hS8.1.below hW9 (by omega), hS8.2.below hW9 (by omega)⟩
            have hB9 : Below w.heap.size w w9 := hB8.trans (hW9.mono hB8.size)
            refine ⟨_, rfl, hS9, ?_⟩
            simp only [Act.put, List.setIfInBounds_toArray, List.set_cons_zero, List.set_cons_succ]
            refine held_val 6 (some 68) rfl rfl (by kernel_rfl) (by kernel_rfl) (by kernel_rfl) noPanic_put rfl (.string z) (fun _ => rfl) hS9 ?_
            simp only [Act.put, List.setIfInBounds_toArray, List.set_cons_zero, List.set_cons_succ]
            refine held_val 7 (some 69) rfl rfl (by kernel_rfl) (by kernel_rfl) (by kernel_rfl) noPanic_put rfl (.bool zo) (fun _ => rfl) hS9 ?_
            simp only [Act.put, List.setIfInBounds_toArray, List.set_cons_zero, List.set_cons_succ]
            refine held_assign 8 (some 2) (by kernel_rfl) rfl rfl _ rfl rfl (.string z) rfl hS9 ?_
            simp only [Act.put, List.setIfInBounds_toArray, List.set_cons_zero, List.set_cons_succ]
            refine held_assign 9 (some 3) (by kernel_rfl) rfl rfl _ rfl rfl (.bool zo) rfl hS9 ?_
            simp only [Act.put, List.setIfInBounds_toArray, List.set_cons_zero, List.set_cons_succ]
            refine wpAnyH_done (by kernel_rfl) ?_ _
            refine NoPanic.normal ?_
            go_wp2
            go_ret2
            exact ⟨HA.out, hB9⟩
    · have HF := hideT' (NO.out (by
        unfold coOk rdDig
        have l1 : (coTop t.data.toList).length = o.size := by rw [← HO.out]; simp
        have l2 : (coBot t.data.toList).length = bt.size := by rw [← HBT.out]; simp
        rw [l1, l2]
        by_cases e : o.size ≤ 600
        · rw [decide_eq_false (show ¬ bt.size ≤ 600 by omega)]; simp
        · rw [decide_eq_false e]; simp))
      by_cases e : (600 : Int) < (o.size : Int)
      · go_wp2
        go_ret2
        exact ⟨HF.out, hW2⟩
      · have e2 : (600 : Int) < (bt.size : Int) := by omega
        go_wp2
        go_ret2
        exact ⟨HF.out, hW2⟩
end Go.Proofs.YtnmofolhfbldjaaGreatDoor

/-
  What floor of impl, impl.FloorNum and spec.FloorNum answer.
-/
namespace Go.Proofs.YtnmofolhfbldjaaGreatDoor
open Go.RowKit
set_option linter.unusedVariables false

theorem okN_bot {l : List UInt8} (h : okN l = true) : botN l ≠ 0 := by
  unfold okN at h
  unfold botN
  cases hb : brokenN l with
  | false => simp
  | true =>
    rw [hb] at h
    simp only [Bool.and_eq_true, Bool.not_true, Bool.false_or, decide_eq_true_eq] at h
    rw [if_pos rfl]
    exact h.2.2.1
theorem okN_neg {l : List UInt8} (h : okN l = true) (hn : negN l = true) : topN l ≠ 0 := by
  unfold okN at h
  unfold topN
  rw [hn] at h
  simp only [Bool.and_eq_true, Bool.true_and, Bool.not_eq_true', decide_eq_false_iff_not] at h
  exact h.1.2
theorem okN_lt {l : List UInt8} (h : okN l = true) : topN l < 10 ^ 600 := by
  unfold okN at h
  simp only [Bool.and_eq_true] at h
  exact good_lt' h.1.1

/-- The floor's size. -/
def flo (g : Bool) (n m : Nat) : Nat := n / m + if g && decide (n % m ≠ 0) then 1 else 0
theorem flo_le {g : Bool} {n m : Nat} (hg : g = true → n ≠ 0) : flo g n m ≤ n := by
  unfold flo
  cases g with
  | false => simp; exact Nat.div_le_self _ _
  | true =>
    by_cases h : n % m = 0
    · rw [decide_eq_false (by simp [h])]; simp; exact Nat.div_le_self _ _
    · rw [decide_eq_true h]
      have hm : m ≠ 1 := fun e => h (by rw [e]; exact Nat.mod_one _)
      by_cases h0 : m = 0
      · subst h0; simp; have := hg rfl; omega
      · have := Nat.div_lt_self (Nat.pos_of_ne_zero (hg rfl)) (show 1 < m by omega)
        exact this
theorem flo_ne {n m : Nat} (hm : m ≠ 0) (hn : n ≠ 0) : flo true n m ≠ 0 := by
  unfold flo
  by_cases h : n % m = 0
  · rw [decide_eq_false (by simp [h])]
    have := Nat.div_pos (Nat.le_of_dvd (Nat.pos_of_ne_zero hn) (Nat.dvd_of_mod_eq_zero h)) (Nat.pos_of_ne_zero hm)
    exact Nat.ne_of_gt this
  · rw [decide_eq_true h]; simp

def FloorAns (a : ByteArray) (e : Ending) : Prop :=
  (okN a.data.toList = true ∧ TellsN (negN a.data.toList) (flo (negN a.data.toList) (topN a.data.toList) (botN a.data.toList)) 1 e) ∨ (okN a.data.toList = false ∧ Mute e)
theorem FloorAns.same {a : ByteArray} {e e' : Ending} (h : FloorAns a e) (h' : FloorAns a e') : ∃ (s : ByteArray) (o : Bool), e = .returned (.tuple #[.string s, .bool o]) ∧ e' = .returned (.tuple #[.string s, .bool o]) := by
  rcases h with ⟨g1, h⟩ | ⟨g1, h⟩ <;> rcases h' with ⟨g2, h'⟩ | ⟨g2, h'⟩
  · exact h.same h'
  · rw [g1] at g2; cases g2
  · rw [g1] at g2; cases g2
  · exact h.same h'

theorem TellsN.form2 {g : Bool} {n m : Nat} {e : Ending} (h : TellsN g n m e) : ∃ (s : ByteArray) (o : Bool), e = .returned (.tuple #[.string s, .bool o]) := by
  obtain ⟨s, rfl, _, _⟩ := h
  exact ⟨s, _, rfl⟩
theorem run_row_nat {o : Oper} {a : Act} {w : World} (x : Operand) (ho : o.op = .load 97 x) (b : Nat) (hx : a.eval x = .pointer (some ⟨b, 0, none⟩)) (u : Int) (p : List Int) (hN : NatAt w b u p) (hl : p.length = 204) : (execOp a.eval o).run Tryz.prog w = .ok (.value (.agg (natC u p))) w := by
  unfold execOp
  simp only [ho, hx, Instr.loadAt, Instr.sureAddr, Sem.run_bind, Sem.run_pure, Result.andThen_ok, run_loadVar_row w b 97 97 (natC u p) (0, 0) _ hN Tryz.underlying97 rfl (nat_info u p hl)]
end Go.Proofs.YtnmofolhfbldjaaGreatDoor
