/-
  What strings.Cut answers at a text of one byte.
-/
import Derived.Test.YtpphkdgjojnfeaaDoorCutB
namespace Go.Proofs.YtpphkdgjojnfeaaDoor
open Go.RowKit
set_option linter.unusedVariables false

set_option maxHeartbeats 400000 in
set_option maxRecDepth 100000 in
theorem slCutB_any (c : UInt8) (s : ByteArray) (w : World) (hs : s.size ≤ maxLen) :
    Calls Tryd.prog 44 #[.string s, .string ⟨#[c]⟩] w fun e w' => ∃ t u : ByteArray, e = .returned (.tuple #[.string t, .string u, .bool (cutB c s.data.toList).2.2]) ∧ t.data.toList = (cutB c s.data.toList).1 ∧ u.data.toList = (cutB c s.data.toList).2.1 ∧ Below w.heap.size w w' := by
  unfold maxLen at hs
  have hge := Lib.indexByte_ge s.data.toList c
  obtain ⟨x, hx⟩ : ∃ x, x = Lib.indexByte s.data.toList c := ⟨_, rfl⟩
  rw [← hx] at hge
  by_cases h : 0 ≤ x
  · obtain ⟨i, rfl⟩ : ∃ i : Nat, x = (i : Int) := ⟨x.toNat, by omega⟩
    obtain ⟨h1, h2⟩ := Lib.indexByte_some hx.symm
    have hc := cutB_some c s.data.toList i h1 h2
    have hi : i < s.size := by
      have := (List.getElem?_eq_some_iff.1 h1).1
      simpa using this
    have HT : Hid ((s.extract 0 i).data.toList = (cutB c s.data.toList).1 ∧ (s.extract (i + 1) s.size).data.toList = (cutB c s.data.toList).2.1 ∧ (cutB c s.data.toList).2.2 = true) := by
      unfold Hid; rw [hc, ext_head, ext_tail]; exact ⟨rfl, rfl, rfl⟩
    have HX := hideT' hx
    have hi2 : (i : Int) ≤ (s.size : Int) := by omega
    obtain ⟨k1, hk1⟩ : ∃ k1, k1 = i + 1 := ⟨_, rfl⟩
    rw [← hk1] at HT
    have hwk : IntKind.i64.wrap ((i : Int) + 1) = (k1 : Int) := by rw [IntKind.wrap_i64]; omega
    have hi3 : (k1 : Int) ≤ (s.size : Int) := by omega
    clear hx h1 h2 hc hk1
    go_enter Tryd.func44, Tryd.ntmps44
    go_wp2_with fail
    refine (Tryd.stringslite_Index_one s c _).mono ?_
    rintro e w' ⟨rfl, rfl⟩
    rw [← HX.out]
    go_wp2_with fail
    refine held_begin0 (by kernel_rfl) ?_
    refine held_val0 0 (some 13) rfl rfl (by kernel_rfl) (by kernel_rfl) (by kernel_rfl) rfl (.string s) (fun _ => rfl) ?_
    simp only [Act.put, List.setIfInBounds_toArray, List.set_cons_zero, List.set_cons_succ]
    refine held_val0 1 (some 14) rfl rfl (by kernel_rfl) (by kernel_rfl) (by kernel_rfl) rfl (.int .i64 (i : Int)) (fun _ => rfl) ?_
    simp only [Act.put, List.setIfInBounds_toArray, List.set_cons_zero, List.set_cons_succ]
    refine held_val0 2 (some 15) rfl rfl (by kernel_rfl) (by kernel_rfl) (by kernel_rfl) rfl (.string (s.extract 0 i)) (fun _ => by go_simp) ?_
    simp only [Act.put, List.setIfInBounds_toArray, List.set_cons_zero, List.set_cons_succ]
    refine held_val0 3 (some 16) rfl rfl (by kernel_rfl) (by kernel_rfl) (by kernel_rfl) rfl (.string s) (fun _ => rfl) ?_
    simp only [Act.put, List.setIfInBounds_toArray, List.set_cons_zero, List.set_cons_succ]
    refine held_val0 4 (some 17) rfl rfl (by kernel_rfl) (by kernel_rfl) (by kernel_rfl) rfl (.int .i64 (i : Int)) (fun _ => rfl) ?_
    simp only [Act.put, List.setIfInBounds_toArray, List.set_cons_zero, List.set_cons_succ]
    refine held_val0 5 (some 18) rfl rfl (by kernel_rfl) (by kernel_rfl) (by kernel_rfl) rfl (.string ⟨#[c]⟩) (fun _ => rfl) ?_
    simp only [Act.put, List.setIfInBounds_toArray, List.set_cons_zero, List.set_cons_succ]
    refine held_val0 6 (some 19) rfl rfl (by kernel_rfl) (by kernel_rfl) (by kernel_rfl) rfl (.int .i64 1) (fun _ => by go_simp) ?_
    simp only [Act.put, List.setIfInBounds_toArray, List.set_cons_zero, List.set_cons_succ]
    refine held_val0 7 (some 20) rfl rfl (by kernel_rfl) (by kernel_rfl) (by kernel_rfl) rfl (.int .i64 (k1 : Int)) (fun _ => by go_simp) ?_
    simp only [Act.put, List.setIfInBounds_toArray, List.set_cons_zero, List.set_cons_succ]
    refine held_val0 8 (some 21) rfl rfl (by kernel_rfl) (by kernel_rfl) (by kernel_rfl) rfl (.string (s.extract k1 s.size)) (fun _ => by go_simp) ?_
    simp only [Act.put, List.setIfInBounds_toArray, List.set_cons_zero, List.set_cons_succ]
    refine held_assign0 9 (some 4) (by kernel_rfl) rfl rfl _ rfl rfl (.string (s.extract 0 i)) rfl ?_
    simp only [Act.put, List.setIfInBounds_toArray, List.set_cons_zero, List.set_cons_succ]
    refine held_assign0 10 (some 5) (by kernel_rfl) rfl rfl _ rfl rfl (.string (s.extract k1 s.size)) rfl ?_
    simp only [Act.put, List.setIfInBounds_toArray, List.set_cons_zero, List.set_cons_succ]
    refine held_assign0 11 (some 6) (by kernel_rfl) rfl rfl _ rfl rfl (.bool true) rfl ?_
    simp only [Act.put, List.setIfInBounds_toArray, List.set_cons_zero, List.set_cons_succ]
    refine wpAnyH_done (by kernel_rfl) ?_ _
    refine NoPanic.normal ?_
    go_wp2
    go_ret3
    exact ⟨_, _, by rw [HT.out.2.2]; rfl, HT.out.1, HT.out.2.1, (Below.refl _ _).drew⟩
  · have hx1 : x = -1 := by omega
    have hc := cutB_none c s.data.toList (Lib.indexByte_none (by rw [← hx, hx1]))
    have HT : Hid (s.data.toList = (cutB c s.data.toList).1 ∧ ([] : List UInt8) = (cutB c s.data.toList).2.1 ∧ (cutB c s.data.toList).2.2 = false) := by
      unfold Hid; rw [hc]; exact ⟨rfl, rfl, rfl⟩
    have HX := hideT' hx
    subst hx1
    clear hx hc
    go_enter Tryd.func44, Tryd.ntmps44
    go_wp2_with fail
    refine (Tryd.stringslite_Index_one s c _).mono ?_
    rintro e w' ⟨rfl, rfl⟩
    rw [← HX.out]
    go_wp2
    go_ret3
    exact ⟨s, ⟨#[]⟩, by rw [HT.out.2.2]; rfl, HT.out.1, HT.out.2.1, Below.refl _ _⟩

set_option maxHeartbeats 400000 in
set_option maxRecDepth 100000 in
theorem cutLib_any (c : UInt8) (s : ByteArray) (w : World) (hs : s.size ≤ maxLen) :
    Calls Tryd.prog 37 #[.string s, .string ⟨#[c]⟩] w fun e w' => ∃ t u : ByteArray, e = .returned (.tuple #[.string t, .string u, .bool (cutB c s.data.toList).2.2]) ∧ t.data.toList = (cutB c s.data.toList).1 ∧ u.data.toList = (cutB c s.data.toList).2.1 ∧ Below w.heap.size w w' := by
  go_enter Tryd.func37, Tryd.ntmps37
  go_wp2_with fail
  refine (slCutB_any c s _ hs).mono ?_
  rintro e w' ⟨t, u, rfl, h1, h2, hW⟩
  have H := hideT' (And.intro h1 h2)
  clear h1 h2
  go_wp2
  go_ret3
  exact ⟨t, u, rfl, H.out.1, H.out.2, hW⟩
end Go.Proofs.YtpphkdgjojnfeaaDoor
