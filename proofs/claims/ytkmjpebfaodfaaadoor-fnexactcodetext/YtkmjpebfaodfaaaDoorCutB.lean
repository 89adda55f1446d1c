/-
  Cutting a text at any byte: plain facts, and what spec.l2Cut answers.
-/
import Derived.Test.YtkmjpebfaodfaaaDoorBaseHeld
import Derived.Below
import Derived.WalkMore
import Derived.Deep.LoopGhost
import Derived.RegionTactic
namespace Go.Proofs.YtkmjpebfaodfaaaDoor
open Go.RowKit
set_option linter.unusedVariables false

/-- What stands ahead of the first byte c, what behind it, and whether there is one. -/
def cutB (c : UInt8) : List UInt8 → List UInt8 × List UInt8 × Bool
  | [] => ([], [], false)
  | d :: m => if d = c then ([], m, true) else (d :: (cutB c m).1, (cutB c m).2.1, (cutB c m).2.2)

theorem cutB_none (c : UInt8) : ∀ (l : List UInt8), (∀ k : Nat, l[k]? ≠ some c) → cutB c l = (l, [], false)
  | [], _ => rfl
  | d :: m, h => by
    have h0 : d ≠ c := fun e => h 0 (by rw [e]; rfl)
    have := cutB_none c m (fun k => by have := h (k + 1); simpa using this)
    simp only [cutB, if_neg h0, this]
theorem cutB_some (c : UInt8) : ∀ (l : List UInt8) (i : Nat), l[i]? = some c → (∀ k, k < i → l[k]? ≠ some c) → cutB c l = (l.take i, l.drop (i + 1), true)
  | [], i, h, _ => by simp at h
  | d :: m, 0, h, _ => by
    have h0 : d = c := by simpa using h
    simp [cutB, h0]
  | d :: m, i + 1, h, hk => by
    have h0 : d ≠ c := fun e => hk 0 (by omega) (by rw [e]; rfl)
    have := cutB_some c m i (by simpa using h) (fun k hki => by have := hk (k + 1) (by omega); simpa using this)
    simp only [cutB, if_neg h0, this, List.take_succ_cons, List.drop_succ_cons]
theorem cutB_size (c : UInt8) : ∀ (l : List UInt8), (cutB c l).1.length ≤ l.length ∧ (cutB c l).2.1.length ≤ l.length
  | [] => by simp [cutB]
  | d :: m => by
    have := cutB_size c m
    by_cases h : d = c
    · simp [cutB, h]
    · simp only [cutB, if_neg h, List.length_cons]; omega
theorem cutB_has (c : UInt8) : ∀ (l : List UInt8), (cutB c l).2.2 = l.contains c
  | [] => rfl
  | d :: m => by
    by_cases h : d = c
    · subst h; simp [cutB]
    · have hcd : (c == d) = false := by rw [beq_eq_false_iff_ne]; exact fun e => h e.symm
      rw [List.contains_cons, hcd, Bool.false_or, ← cutB_has c m]; simp only [cutB, if_neg h]

set_option maxHeartbeats 1000000 in
set_option maxRecDepth 100000 in
theorem l2CutB_any (c : UInt8) (x : Int) (hx : x = (c.toNat : Int)) (s : ByteArray) (w : World) (hs : s.size ≤ maxLen) :
    Calls Tryd.prog 24 #[.string s, .int .u8 x] w fun e w' => (∃ t u : ByteArray, e = .returned (.tuple #[.string t, .string u, .bool (cutB c s.data.toList).2.2]) ∧ t.data.toList = (cutB c s.data.toList).1 ∧ u.data.toList = (cutB c s.data.toList).2.1) ∧ Below w.heap.size w w' := by
  unfold maxLen at hs
  have hs' : (s.size : Int) ≤ 9223372036854775807 := by omega
  have HX := hideT' hx
  clear hx
  go_enter Tryd.func24, Tryd.ntmps24
  go_wp2_with fail
  go_loopg [7] s.size (fun g i wr => ∃ k : Nat, g = s.size - k ∧ k ≤ s.size ∧ i = .int .i64 (k : Int) ∧ Hid (∀ j, j < k → s.data.toList[j]? ≠ some c) ∧ wr = w)
  case atStart => exact ⟨0, rfl, Nat.zero_le _, rfl, fun j hj => by omega, rfl⟩
  case round =>
    obtain ⟨k, hg, hk, rfl, HK, rfl⟩ := hrel
    by_cases hlt : k < s.size
    · have hlt' : (k : Int) < (s.size : Int) := by omega
      by_cases h47 : s[k] = c
      · have h47' : (s[k].toNat : Int) = x := by rw [h47, HX.out]
        have hc := cutB_some c s.data.toList k (by rw [getN k hlt, h47]) HK.out
        obtain ⟨k1, hk1⟩ : ∃ k1, k1 = k + 1 := ⟨_, rfl⟩
        have hwk : IntKind.i64.wrap ((k : Int) + 1) = (k1 : Int) := by rw [IntKind.wrap_i64]; omega
        have hk1' : (k1 : Int) ≤ (s.size : Int) := by omega
        have hk' : (k : Int) ≤ (s.size : Int) := by omega
        have HC : Hid ((s.extract 0 k).data.toList = (cutB c s.data.toList).1 ∧ (s.extract k1 s.size).data.toList = (cutB c s.data.toList).2.1 ∧ (cutB c s.data.toList).2.2 = true) := by
          unfold Hid
          rw [hc, ext_head, ext_tail, hk1]; exact ⟨rfl, rfl, rfl⟩
        clear hc hk1 h47
        go_wp2_with fail
        refine held_begin0 (by kernel_rfl) ?_
        refine held_val0 0 (some 19) rfl rfl (by kernel_rfl) (by kernel_rfl) (by kernel_rfl) rfl (.string s) (fun _ => rfl) ?_
        simp only [Act.put, List.setIfInBounds_toArray, List.set_cons_zero, List.set_cons_succ]
        refine held_val0 1 (some 20) rfl rfl (by kernel_rfl) (by kernel_rfl) (by kernel_rfl) rfl (.int .i64 (k : Int)) (fun _ => rfl) ?_
        simp only [Act.put, List.setIfInBounds_toArray, List.set_cons_zero, List.set_cons_succ]
        refine held_val0 2 (some 21) rfl rfl (by kernel_rfl) (by kernel_rfl) (by kernel_rfl) rfl (.string (s.extract 0 k)) (fun _ => by go_simp) ?_
        simp only [Act.put, List.setIfInBounds_toArray, List.set_cons_zero, List.set_cons_succ]
        refine held_val0 3 (some 22) rfl rfl (by kernel_rfl) (by kernel_rfl) (by kernel_rfl) rfl (.string s) (fun _ => rfl) ?_
        simp only [Act.put, List.setIfInBounds_toArray, List.set_cons_zero, List.set_cons_succ]
        refine held_val0 4 (some 23) rfl rfl (by kernel_rfl) (by kernel_rfl) (by kernel_rfl) rfl (.int .i64 (k : Int)) (fun _ => rfl) ?_
        simp only [Act.put, List.setIfInBounds_toArray, List.set_cons_zero, List.set_cons_succ]
        refine held_val0 5 (some 24) rfl rfl (by kernel_rfl) (by kernel_rfl) (by kernel_rfl) rfl (.int .i64 (k1 : Int)) (fun _ => by go_simp) ?_
        simp only [Act.put, List.setIfInBounds_toArray, List.set_cons_zero, List.set_cons_succ]
        refine held_val0 6 (some 25) rfl rfl (by kernel_rfl) (by kernel_rfl) (by kernel_rfl) rfl (.string (s.extract k1 s.size)) (fun _ => by go_simp) ?_
        simp only [Act.put, List.setIfInBounds_toArray, List.set_cons_zero, List.set_cons_succ]
        refine held_assign0 7 (some 4) (by kernel_rfl) rfl rfl _ rfl rfl (.string (s.extract 0 k)) rfl ?_
        simp only [Act.put, List.setIfInBounds_toArray, List.set_cons_zero, List.set_cons_succ]
        refine held_assign0 8 (some 5) (by kernel_rfl) rfl rfl _ rfl rfl (.string (s.extract k1 s.size)) rfl ?_
        simp only [Act.put, List.setIfInBounds_toArray, List.set_cons_zero, List.set_cons_succ]
        refine held_assign0 9 (some 6) (by kernel_rfl) rfl rfl _ rfl rfl (.bool true) rfl ?_
        simp only [Act.put, List.setIfInBounds_toArray, List.set_cons_zero, List.set_cons_succ]
        refine wpAnyH_done (by kernel_rfl) ?_ _
        refine NoPanic.normal ?_
        go_wp2
        (try simp only [Exit.inBlock, Exit.then]); refine bodyPost_ret (results_tmp3 rfl _ _ _) rfl ?_
        exact ⟨⟨_, _, by rw [HC.out.2.2]; rfl, HC.out.1, HC.out.2.1⟩, (Below.refl _ _).drew⟩
      · have h47' : ((s[k].toNat : Int) == x) = false := by
          rw [beq_eq_false_iff_ne]
          intro e; apply h47; exact UInt8.toNat_inj.1 (by have := HX.out; omega)
        have HK2 : Hid (∀ j, j < k + 1 → s.data.toList[j]? ≠ some c) := by
          intro j hj
          by_cases e : j = k
          · subst e; rw [getN j hlt]; intro h; exact h47 (by injection h)
          · exact HK.out j (by omega)
        clear h47
        go_wp2
        go_roundg (s.size - (k + 1))
        case measure => omega
        case rel => exact ⟨k + 1, rfl, by omega, by go_num, HK2, rfl⟩
    · have hc := cutB_none c s.data.toList (fun j => by
        by_cases hj : j < s.size
        · exact HK.out j (by omega)
        · rw [List.getElem?_eq_none (by simp; omega)]; simp)
      have HA : Hid (s.data.toList = (cutB c s.data.toList).1 ∧ (⟨#[]⟩ : ByteArray).data.toList = (cutB c s.data.toList).2.1 ∧ (cutB c s.data.toList).2.2 = false) := by
        unfold Hid; rw [hc]; exact ⟨rfl, rfl, rfl⟩
      clear hc
      have hlt' : ¬ (k : Int) < (s.size : Int) := by omega
      go_wp2
      go_ret3
      exact ⟨⟨_, _, by rw [HA.out.2.2]; rfl, HA.out.1, HA.out.2.1⟩, Below.refl _ _⟩
end Go.Proofs.YtkmjpebfaodfaaaDoor
