/-
  What length and raised of impl's nats answer.
-/
import Derived.Test.YtmfpnbmfcoahbaaDoorImplTen
import Derived.Test.YtmfpnbmfcoahbaaDoorPkDivideA
namespace Go.Proofs.YtmfpnbmfcoahbaaDoor
open Go.RowKit
set_option linter.unusedVariables false

set_option maxHeartbeats 1000000 in
set_option maxRecDepth 100000 in
theorem length_any {n k : Nat} {p : List Int} (w : World) (hP : Rep n k p) (hT : Tab w.heap.size w) :
    Calls Tryd.prog 59 #[.agg (natC k p)] w fun e w' => ∃ L : Nat, e = .returned (.int .i64 (L : Int)) ∧ Len n L ∧ L ≤ 1230 ∧ Below w.heap.size w w' := by
  have hp := hP.len
  have hle := hP.le
  have A := NatAt.new w k p
  have hB : Below w.heap.size w (w.alloc (.cells (natC k p) 46)) := (Below.refl _ _).alloc (Nat.le_refl _) _
  have a0 := A.c0
  have hz0 : Hid (k = 0 ↔ n = 0) := hP.zero_iff
  by_cases hk : k = 0
  · have hn := hz0.out.1 hk
    have hzz : ((k : Int) == 0) = true := by simp [hk]
    have HN : Hid (Len n 1) := ⟨by omega, by rw [hn]; decide, fun h => absurd hn h, fun _ => rfl⟩
    clear hn hP hT hk
    go_enter Tryd.func59, Tryd.ntmps59
    go_wp2
    go_ret
    exact ⟨1, rfl, HN.out, by omega, hB⟩
  · obtain ⟨x, hx, hx0, hx1, hlo, hhi⟩ := hP.top_bd (by omega)
    obtain ⟨k1, hk1⟩ : ∃ k1, k = k1 + 1 := ⟨k - 1, by omega⟩
    have ek : k - 1 = k1 := by omega
    rw [ek] at hx hlo hhi
    obtain ⟨d1, d2, d3⟩ := dec_len x hx0
    have d4 : (Lib.decDigits x).length ≤ 6 := by
      obtain ⟨c1, c2⟩ := dec_canon x
      exact (canon_len_le c1 6 (by omega)).2 (by rw [c2]; omega)
    have HL := hideT' (Len.of_top d1 d2 d3 hlo hhi)
    have HT : Hid (Tab w.heap.size (w.alloc (.cells (natC k p) 46)).drew) := hT.on hB.drew
    have HX := hideT' hx
    have hwk : IntKind.i64.wrap ((k : Int) - 1) = (k1 : Int) := by rw [IntKind.wrap_i64]; omega
    have hw6 : IntKind.i64.wrap ((k1 : Int) * 6) = (k1 : Int) * 6 := by rw [IntKind.wrap_i64]; omega
    have hk1l : (k1 : Int) < 204 := by omega
    have hne : ((k : Int) == 0) = false := by simp; omega
    have hitoa : Lib.itoa (x : Int) = Lib.decDigits x := by unfold Lib.itoa; rw [if_neg (by omega)]; congr 1
    have HI := hideT' hitoa
    obtain ⟨D, hD⟩ : ∃ D, D = (Lib.decDigits x).length := ⟨_, rfl⟩
    have hsz : Hid ((⟨(Lib.decDigits x).toArray⟩ : ByteArray).size = D) := by unfold Hid; simp [ByteArray.size, hD]
    have hwa : IntKind.i64.wrap ((k1 : Int) * 6 + (D : Int)) = ((6 * k1 + D : Nat) : Int) := by rw [IntKind.wrap_i64]; omega
    rw [← hD] at HL
    have hD6 : D ≤ 6 := by omega
    clear hP hT hx hlo hhi d1 d2 d3 d4 hitoa hD ek hk1 hk
    go_enter Tryd.func59, Tryd.ntmps59
    go_wp2_with fail
    refine held_begin (fun w' => NatAt w' w.heap.size k p) (by kernel_rfl) ?_
    have hS : NatAt (w.alloc (.cells (natC k p) 46)).drew w.heap.size k p := A
    refine held_val 0 (some 6) rfl rfl (by kernel_rfl) (by kernel_rfl) (by kernel_rfl) noPanic_put rfl (.pointer (some ⟨w.heap.size, 0, none⟩)) (fun _ => by go_simp) hS ?_
    simp only [Act.put, List.setIfInBounds_toArray, List.set_cons_zero, List.set_cons_succ]
    refine held_valS 1 (some 7) rfl rfl (by kernel_rfl) (by kernel_rfl) (by kernel_rfl) noPanic_put rfl (.int .i64 (k : Int)) (fun _ h => BL.run_cell1 (.tmp 6) 3 rfl ⟨w.heap.size, 0, none⟩ rfl _ Tryd.underlying3 rfl h.c0) hS ?_
    simp only [Act.put, List.setIfInBounds_toArray, List.set_cons_zero, List.set_cons_succ]
    refine held_val 2 (some 8) rfl rfl (by kernel_rfl) (by kernel_rfl) (by kernel_rfl) noPanic_put rfl (.int .i64 (k1 : Int)) (fun _ => by go_simp) hS ?_
    simp only [Act.put, List.setIfInBounds_toArray, List.set_cons_zero, List.set_cons_succ]
    refine held_val 3 (some 9) rfl rfl (by kernel_rfl) (by kernel_rfl) (by kernel_rfl) noPanic_put rfl (.int .i64 ((k1 : Int) * 6)) (fun _ => by go_simp) hS ?_
    simp only [Act.put, List.setIfInBounds_toArray, List.set_cons_zero, List.set_cons_succ]
    refine held_val 4 (some 10) rfl rfl (by kernel_rfl) (by kernel_rfl) (by kernel_rfl) noPanic_put rfl (.pointer (some ⟨w.heap.size, 0, none⟩)) (fun _ => by go_simp) hS ?_
    simp only [Act.put, List.setIfInBounds_toArray, List.set_cons_zero, List.set_cons_succ]
    refine held_valS 5 (some 11) rfl rfl (by kernel_rfl) (by kernel_rfl) (by kernel_rfl) noPanic_put rfl (.int .i64 (k : Int)) (fun _ h => BL.run_cell1 (.tmp 10) 3 rfl ⟨w.heap.size, 0, none⟩ rfl _ Tryd.underlying3 rfl h.c0) hS ?_
    simp only [Act.put, List.setIfInBounds_toArray, List.set_cons_zero, List.set_cons_succ]
    refine held_val 6 (some 12) rfl rfl (by kernel_rfl) (by kernel_rfl) (by kernel_rfl) noPanic_put rfl (.int .i64 (k1 : Int)) (fun _ => by go_simp) hS ?_
    simp only [Act.put, List.setIfInBounds_toArray, List.set_cons_zero, List.set_cons_succ]
    refine held_val 7 (some 13) rfl rfl (by kernel_rfl) (by kernel_rfl) (by kernel_rfl) noPanic_put rfl (.pointer (some ⟨w.heap.size, 1, none⟩)) (fun _ => by go_simp) hS ?_
    simp only [Act.put, List.setIfInBounds_toArray, List.set_cons_zero, List.set_cons_succ]
    refine held_val 8 (some 14) rfl rfl (by kernel_rfl) (by kernel_rfl) (by kernel_rfl) noPanic_put rfl (.pointer (some ⟨w.heap.size, 1 + k1, none⟩)) (fun _ => by go_simp) hS ?_
    simp only [Act.put, List.setIfInBounds_toArray, List.set_cons_zero, List.set_cons_succ]
    refine held_valS 9 (some 15) rfl rfl (by kernel_rfl) (by kernel_rfl) (by kernel_rfl) noPanic_put rfl (.int .i64 (x : Int)) (fun _ h => BL.run_cell1 (.tmp 14) 3 rfl ⟨w.heap.size, 1 + k1, none⟩ rfl _ Tryd.underlying3 rfl (by have h2 := h.cs k1 (by omega); rw [HX.out] at h2; exact h2)) hS ?_
    simp only [Act.put, List.setIfInBounds_toArray, List.set_cons_zero, List.set_cons_succ]
    refine held_call 10 (some 16) (by kernel_rfl) rfl rfl rfl 52 #[.int .i64 (x : Int)] (by go_simp) _ (Tryd.strconv_Itoa (x : Int) (by omega) (by omega) (w.alloc (.cells (natC k p) 46)).drew HT.out.here) ?_
    rintro e w2 ⟨rfl, kk, os, hw2⟩
    have hgr : (w.alloc (.cells (natC k p) 46)).drew.grownBy w2 none := by rw [hw2]; exact grown_grow _ _ _
    rw [HI.out]
    have hS2 : NatAt w2 w.heap.size k p := NatAt.grown hS hgr (by simp)
    refine ⟨_, rfl, hS2, ?_⟩
    simp only [Act.put, List.setIfInBounds_toArray, List.set_cons_zero, List.set_cons_succ]
    refine held_val 11 (some 17) rfl rfl (by kernel_rfl) (by kernel_rfl) (by kernel_rfl) noPanic_put rfl (.int .i64 (D : Int)) (fun _ => by have h9 := hsz.out; go_simp) hS2 ?_
    simp only [Act.put, List.setIfInBounds_toArray, List.set_cons_zero, List.set_cons_succ]
    refine held_val 12 (some 18) rfl rfl (by kernel_rfl) (by kernel_rfl) (by kernel_rfl) noPanic_put rfl (.int .i64 ((6 * k1 + D : Nat) : Int)) (fun _ => by go_simp) hS2 ?_
    simp only [Act.put, List.setIfInBounds_toArray, List.set_cons_zero, List.set_cons_succ]
    refine held_assign 13 (some 2) (by kernel_rfl) rfl rfl _ rfl rfl _ rfl hS2 ?_
    simp only [Act.put, List.setIfInBounds_toArray, List.set_cons_zero, List.set_cons_succ]
    refine wpAnyH_done (by kernel_rfl) ?_ _
    refine NoPanic.normal ?_
    have hB2 : Below w.heap.size w w2 := hB.drew.grown hgr (by simp) (by intro k hk; cases hk)
    go_wp2
    go_ret
    exact ⟨6 * k1 + D, rfl, HL.out, by omega, hB2⟩
end Go.Proofs.YtmfpnbmfcoahbaaDoor
