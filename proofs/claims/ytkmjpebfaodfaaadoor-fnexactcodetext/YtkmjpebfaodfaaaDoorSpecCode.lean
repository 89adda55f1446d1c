/-
  What spec.l6Text and spec.CodeText answer: the text of code.
-/
import Derived.Shelf.Abstract
import Derived.Test.YtkmjpebfaodfaaaDoorCodeMath
import Derived.Test.YtkmjpebfaodfaaaDoorRecs2
import Derived.Test.YtkmjpebfaodfaaaDoorCutB
import Derived.Test.YtkmjpebfaodfaaaDoorPkSpecMul
namespace Go.Proofs.YtkmjpebfaodfaaaDoor
open Go.RowKit
set_option linter.unusedVariables false

/-- Two texts one behind the other. -/
theorem run_cat {o : Oper} {a : Act} {w : World} {p q : Operand} {x y : ByteArray} (ho : o.op = .binOp .add 9 p q 9) (hp : a.eval p = .string x) (hq : a.eval q = .string y) (hs : x.size + y.size ≤ 9223372036854775807) :
    (execOp a.eval o).run Tryd.prog w = .ok (.value (.string (x ++ y))) w := by
  have hz : ¬ 9223372036854775807 < x.size + y.size := by omega
  unfold execOp
  simp only [ho, hp, hq]
  go_simp
theorem run_load1 {o : Oper} {a : Act} {w : World} {x : Operand} {T : TypeId} {v : Value} {A : Addr} (ho : o.op = .load T x) (hx : a.eval x = .pointer (some A)) (hc : w.cell? A = some v) (ha : ∀ w, (isAgg T).run Tryd.prog w = .ok false w) :
    (execOp a.eval o).run Tryd.prog w = .ok (.value v) w := by
  unfold execOp
  simp only [ho, hx]
  go_simp

theorem insTxt_bytes (t : List UInt8) (a b : Int) (c : ByteArray) : ((⟨t.toArray⟩ : ByteArray) ++ (numB a ++ (⟨#[32]⟩ : ByteArray) ++ numB b ++ (⟨#[32]⟩ : ByteArray) ++ c ++ (⟨#[10]⟩ : ByteArray))) = ⟨(t ++ insTxt (a, b, c)).toArray⟩ := by
  apply ByteArray.ext
  apply Array.ext'
  simp [insTxt, numB]

set_option maxHeartbeats 2000000 in
set_option maxRecDepth 100000 in
theorem l6Text_any (l : List Ins) (v : Value) (w : World) (hl : l.length ≤ 3000) (hok : l.all insOk = true) (hD : InR w v instrL 3 l) :
    Calls Tryd.prog 26 #[v] w fun e w' => e = .returned (.string ⟨(codeTxt l).toArray⟩) ∧ Below w.heap.size w w' := by
  obtain ⟨o, cap, rfl, h⟩ := hD
  have hz := zero_instr.1
  rcases Classical.em (l = []) with rfl | hne
  · clear h hok hl
    go_enter Tryd.func26, Tryd.ntmps26
    go_wp2_with fail
    go_loopg [3, 8] 0 (fun g s i wr => s = .string ⟨#[]⟩ ∧ i = .int .i64 0 ∧ wr = w)
    case atStart => exact ⟨rfl, rfl, rfl⟩
    case round =>
      obtain ⟨rfl, rfl, rfl⟩ := hrel
      go_wp2
      go_ret
      exact ⟨rfl, Below.refl _ _⟩
  obtain ⟨bl, rfl, hbl, hD⟩ := h hne
  have HD := hideT' hD
  have HO := hideT' hok
  clear hD hok h hne
  go_enter Tryd.func26, Tryd.ntmps26
  go_wp2_with fail
  go_loopg [3, 8] l.length (fun g s i wr => ∃ (k : Nat) (t : List UInt8), g = l.length - k ∧ k ≤ l.length ∧ s = .string ⟨t.toArray⟩ ∧ i = .int .i64 (k : Int) ∧ Hid (t = codeTxt (l.take k)) ∧ Below w.heap.size w wr)
  case atStart => exact ⟨0, [], rfl, by omega, rfl, rfl, by simp [Hid, codeTxt], Below.refl _ _⟩
  case round =>
    obtain ⟨k, t, hg, hk, rfl, rfl, HT, hW⟩ := hrel
    by_cases hlt : (k : Int) < (l.length : Int)
    · have hk' : k < l.length := by omega
      obtain ⟨d, hd⟩ : ∃ d, d = l.getD k default := ⟨_, rfl⟩
      have hdo : insOk d = true := by
        have := List.all_eq_true.1 HO.out (l[k]) (List.getElem_mem hk')
        rw [hd]; simpa [List.getD, List.getElem?_eq_getElem hk'] using this
      obtain ⟨p1, p2, p3, p4, p5, p6⟩ := insOk_parts hdo
      have hcl : ∀ j u, (instrL d)[j]? = some u → wr.cell? ⟨bl, k * 3 + j, none⟩ = some u := fun j u hu => (hW.cell (p := ⟨bl, k * 3 + j, none⟩) hbl).trans (HD.out k j u hk' (by rw [← hd]; exact hu))
      obtain ⟨a, b, c⟩ := d
      have c0 := hcl 0 (.int .i64 a) rfl
      have c1 := hcl 1 (.int .i64 b) rfl
      have c2 := hcl 2 (.string c) rfl
      rw [Nat.add_zero] at c0
      simp only at p1 p2 p3 p4 p5
      have hz1 := itoa_small (n := a) (by omega) (by omega)
      have hz2 := itoa_small p3 p4
      have htl : t.length ≤ 1600 * 3000 := by
        rw [HT.out]
        have h1 : (l.take k).all insOk = true := List.all_eq_true.2 fun x hx => List.all_eq_true.1 HO.out x (List.mem_of_mem_take hx)
        have h2 := codeTxt_len h1
        rw [List.length_take] at h2
        omega
      have HZ : Hid ((numB a).size ≤ 6 ∧ (numB b).size ≤ 6 ∧ c.size ≤ 1500 ∧ (⟨t.toArray⟩ : ByteArray).size ≤ 1600 * 3000 ∧ (⟨#[32]⟩ : ByteArray).size = 1 ∧ (⟨#[10]⟩ : ByteArray).size = 1) := ⟨by simpa [numB, ByteArray.size] using hz1, by simpa [numB, ByteArray.size] using hz2, p5, by simpa [ByteArray.size] using htl, rfl, rfl⟩
      have HT2 : Hid (t ++ insTxt (a, b, c) = codeTxt (l.take (k + 1))) := by unfold Hid; rw [codeTxt_take hk', ← hd, HT.out]
      have HE : Hid ((.string ((⟨t.toArray⟩ : ByteArray) ++ (numB a ++ (⟨#[32]⟩ : ByteArray) ++ numB b ++ (⟨#[32]⟩ : ByteArray) ++ c ++ (⟨#[10]⟩ : ByteArray))) : Value) = .string ⟨(t ++ insTxt (a, b, c)).toArray⟩) := by unfold Hid; rw [insTxt_bytes]
      obtain ⟨an, han⟩ := Int.eq_ofNat_of_zero_le (show 0 ≤ a by omega)
      obtain ⟨bn, hbn⟩ := Int.eq_ofNat_of_zero_le p3
      have CA : Hid (∀ w, Calls Tryd.prog 34 #[.int .i64 a] w fun e w' => e = .returned (.string (numB a)) ∧ Below w.heap.size w w') := fun w => by rw [han]; exact l1NumN_any an (by omega) w
      have CB : Hid (∀ w, Calls Tryd.prog 34 #[.int .i64 b] w fun e w' => e = .returned (.string (numB b)) ∧ Below w.heap.size w w') := fun w => by rw [hbn]; exact l1NumN_any bn (by omega) w
      have HR : Hid (∀ w', Below (wr.heap.size + 1) (wr.alloc (.cells #[.int .i64 a, .int .i64 b, .string c] 43)) w' → w'.cell? ⟨wr.heap.size, 0, none⟩ = some (.int .i64 a) ∧ w'.cell? ⟨wr.heap.size, 1, none⟩ = some (.int .i64 b) ∧ w'.cell? ⟨wr.heap.size, 2, none⟩ = some (.string c)) := by
        intro w' h
        have hr := RowAt.below (RowAt.new wr 43 #[.int .i64 a, .int .i64 b, .string c]) h (by omega)
        refine ⟨?_, ?_, ?_⟩ <;> (rw [cell_of_row w' _ _ _ _ _ hr]; rfl)
      have hWs := hW.size
      have HW : Hid (Below w.heap.size w (wr.alloc (.cells #[.int .i64 a, .int .i64 b, .string c] 43))) := hW.alloc hWs _
      have hB0 : Below (wr.heap.size + 1) (wr.alloc (.cells #[.int .i64 a, .int .i64 b, .string c] 43)) (wr.alloc (.cells #[.int .i64 a, .int .i64 b, .string c] 43)).drew := (Below.refl _ _).drew
      clear hd hdo p1 p2 p3 p4 p5 p6 hcl han hbn hz1 hz2 htl
      go_wp2_with fail
      have hS := HR.out _ hB0
      refine held_begin (fun w' => w'.cell? ⟨wr.heap.size, 0, none⟩ = some (.int .i64 a) ∧ w'.cell? ⟨wr.heap.size, 1, none⟩ = some (.int .i64 b) ∧ w'.cell? ⟨wr.heap.size, 2, none⟩ = some (.string c)) (by kernel_rfl) ?_
      refine held_val 0 (some 12) rfl rfl (by kernel_rfl) (by kernel_rfl) (by kernel_rfl) noPanic_put rfl (.string ⟨t.toArray⟩) (fun _ => rfl) hS ?_
      simp only [Act.put, List.setIfInBounds_toArray, List.set_cons_zero, List.set_cons_succ]
      refine held_valS 1 (some 13) rfl rfl (by kernel_rfl) (by kernel_rfl) (by kernel_rfl) noPanic_put rfl (.pointer (some ⟨wr.heap.size, 0, none⟩)) (fun w' hw' => by go_simp) hS ?_
      simp only [Act.put, List.setIfInBounds_toArray, List.set_cons_zero, List.set_cons_succ]
      refine held_valS 2 (some 14) rfl rfl (by kernel_rfl) (by kernel_rfl) (by kernel_rfl) noPanic_put rfl (.int .i64 a) (fun w' hw' => run_load1 rfl rfl hw'.1 (run_isAgg_plain Tryd.underlying3 rfl)) hS ?_
      simp only [Act.put, List.setIfInBounds_toArray, List.set_cons_zero, List.set_cons_succ]
      refine held_valS 5 (some 17) rfl rfl (by kernel_rfl) (by kernel_rfl) (by kernel_rfl) noPanic_put rfl (.pointer (some ⟨wr.heap.size, 1, none⟩)) (fun w' hw' => by go_simp) hS ?_
      simp only [Act.put, List.setIfInBounds_toArray, List.set_cons_zero, List.set_cons_succ]
      refine held_valS 6 (some 18) rfl rfl (by kernel_rfl) (by kernel_rfl) (by kernel_rfl) noPanic_put rfl (.int .i64 b) (fun w' hw' => run_load1 rfl rfl hw'.2.1 (run_isAgg_plain Tryd.underlying3 rfl)) hS ?_
      simp only [Act.put, List.setIfInBounds_toArray, List.set_cons_zero, List.set_cons_succ]
      refine held_valS 10 (some 22) rfl rfl (by kernel_rfl) (by kernel_rfl) (by kernel_rfl) noPanic_put rfl (.pointer (some ⟨wr.heap.size, 2, none⟩)) (fun w' hw' => by go_simp) hS ?_
      simp only [Act.put, List.setIfInBounds_toArray, List.set_cons_zero, List.set_cons_succ]
      refine held_valS 11 (some 23) rfl rfl (by kernel_rfl) (by kernel_rfl) (by kernel_rfl) noPanic_put rfl (.string c) (fun w' hw' => run_load1 rfl rfl hw'.2.2 (run_isAgg_plain Tryd.underlying9 rfl)) hS ?_
      simp only [Act.put, List.setIfInBounds_toArray, List.set_cons_zero, List.set_cons_succ]
      refine held_call 3 (some 15) (by kernel_rfl) rfl rfl rfl 34 #[.int .i64 a] (by go_simp) _ (CA.out _) ?_
      rintro e w1 ⟨rfl, hB1⟩
      have hB1' := hB0.trans (hB1.mono (by simp))
      have hS1 := HR.out _ hB1'
      refine ⟨_, rfl, hS1, ?_⟩
      simp only [Act.put, List.setIfInBounds_toArray, List.set_cons_zero, List.set_cons_succ]
      refine held_val 4 (some 16) rfl rfl (by kernel_rfl) (by kernel_rfl) (by kernel_rfl) noPanic_put rfl (.string (numB a ++ (⟨#[32]⟩ : ByteArray))) (fun _ => run_cat rfl rfl rfl (by have := HZ.out; (try simp only [ByteArray.size_append]); omega)) hS1 ?_
      simp only [Act.put, List.setIfInBounds_toArray, List.set_cons_zero, List.set_cons_succ]
      refine held_call 7 (some 19) (by kernel_rfl) rfl rfl rfl 34 #[.int .i64 b] (by go_simp) _ (CB.out _) ?_
      rintro e w2 ⟨rfl, hB2⟩
      have hB2' := hB1'.trans (hB2.mono (by have := hB1'.size; simpa using this))
      have hS2 := HR.out _ hB2'
      refine ⟨_, rfl, hS2, ?_⟩
      simp only [Act.put, List.setIfInBounds_toArray, List.set_cons_zero, List.set_cons_succ]
      refine held_val 8 (some 20) rfl rfl (by kernel_rfl) (by kernel_rfl) (by kernel_rfl) noPanic_put rfl (.string (numB a ++ (⟨#[32]⟩ : ByteArray) ++ numB b)) (fun _ => run_cat rfl rfl rfl (by have := HZ.out; (try simp only [ByteArray.size_append]); omega)) hS2 ?_
      simp only [Act.put, List.setIfInBounds_toArray, List.set_cons_zero, List.set_cons_succ]
      refine held_val 9 (some 21) rfl rfl (by kernel_rfl) (by kernel_rfl) (by kernel_rfl) noPanic_put rfl (.string (numB a ++ (⟨#[32]⟩ : ByteArray) ++ numB b ++ (⟨#[32]⟩ : ByteArray))) (fun _ => run_cat rfl rfl rfl (by have := HZ.out; (try simp only [ByteArray.size_append]); omega)) hS2 ?_
      simp only [Act.put, List.setIfInBounds_toArray, List.set_cons_zero, List.set_cons_succ]
      refine held_val 12 (some 24) rfl rfl (by kernel_rfl) (by kernel_rfl) (by kernel_rfl) noPanic_put rfl (.string (numB a ++ (⟨#[32]⟩ : ByteArray) ++ numB b ++ (⟨#[32]⟩ : ByteArray) ++ c)) (fun _ => run_cat rfl rfl rfl (by have := HZ.out; (try simp only [ByteArray.size_append]); omega)) hS2 ?_
      simp only [Act.put, List.setIfInBounds_toArray, List.set_cons_zero, List.set_cons_succ]
      refine held_val 13 (some 25) rfl rfl (by kernel_rfl) (by kernel_rfl) (by kernel_rfl) noPanic_put rfl (.string (numB a ++ (⟨#[32]⟩ : ByteArray) ++ numB b ++ (⟨#[32]⟩ : ByteArray) ++ c ++ (⟨#[10]⟩ : ByteArray))) (fun _ => run_cat rfl rfl rfl (by have := HZ.out; (try simp only [ByteArray.size_append]); omega)) hS2 ?_
      simp only [Act.put, List.setIfInBounds_toArray, List.set_cons_zero, List.set_cons_succ]
      refine held_val 14 (some 26) rfl rfl (by kernel_rfl) (by kernel_rfl) (by kernel_rfl) noPanic_put rfl (.string (⟨t.toArray⟩ ++ (numB a ++ (⟨#[32]⟩ : ByteArray) ++ numB b ++ (⟨#[32]⟩ : ByteArray) ++ c ++ (⟨#[10]⟩ : ByteArray)))) (fun _ => run_cat rfl rfl rfl (by have := HZ.out; (try simp only [ByteArray.size_append]); omega)) hS2 ?_
      simp only [Act.put, List.setIfInBounds_toArray, List.set_cons_zero, List.set_cons_succ]
      refine held_assign 15 (some 3) (by kernel_rfl) rfl rfl _ rfl rfl _ rfl hS2 ?_
      simp only [Act.put, List.setIfInBounds_toArray, List.set_cons_zero, List.set_cons_succ]
      refine wpAnyH_done (by kernel_rfl) ?_ _
      refine NoPanic.normal ?_
      go_wp2
      go_roundg (l.length - (k + 1))
      case measure => omega
      case rel => exact ⟨k + 1, _, rfl, by omega, HE.out, by go_num, HT2, HW.out.trans (hB2'.mono (by omega))⟩
    · have hkn : k = l.length := by omega
      have HL : Hid (t = codeTxt l) := by unfold Hid; rw [HT.out, hkn, List.take_length]
      go_wp2
      go_ret
      exact ⟨by rw [← HL.out]; rfl, hW⟩

set_option maxHeartbeats 2000000 in
set_option maxRecDepth 100000 in
theorem specCodeText_any (l : List Ins) (v : Value) (w : World) (hs : ∀ i, i < l.length → (l.getD i default).2.2.size ≤ 1048576) (hl : l.length ≤ 1048576) (hD : InR w v instrL 3 l) :
    Calls Tryd.prog 14 #[v] w fun e w' => e = codeAns l ∧ Below w.heap.size w w' := by
  have HS := hideT' hs
  have HI := hideT' hD
  obtain ⟨o, cap, rfl, h⟩ := hD
  have hz := zero_instr.1
  rcases Classical.em (l = []) with rfl | hne
  · have HC := hideT' (l6Text_any [] (.slice o 0 cap) w (by simp) rfl HI.out)
    have HA : Hid (codeAns [] = .returned (.tuple #[.string ⟨(codeTxt []).toArray⟩, .bool true])) := rfl
    clear h hs hl
    go_enter Tryd.func14, Tryd.ntmps14
    go_wp2_with fail
    go_loopg [14] 0 (fun g i wr => i = .int .i64 0 ∧ wr = w)
    case atStart => exact ⟨rfl, rfl⟩
    case round =>
      obtain ⟨rfl, rfl⟩ := hrel
      go_wp2_with fail
      refine HC.out.mono ?_
      rintro e w2 ⟨rfl, hB2⟩
      go_wp2
      go_ret2
      exact ⟨by rw [HA.out]; rfl, hB2⟩
  obtain ⟨bl, rfl, hbl, hD⟩ := h hne
  have HD := hideT' hD
  clear h hne
  by_cases h3000 : (3000 : Int) < (l.length : Int)
  · have HA : Hid (codeAns l = .returned (.tuple #[.string ⟨#[]⟩, .bool false])) := codeAns_no (by unfold codeOk; rw [decide_eq_false (show ¬ l.length ≤ 3000 by omega)]; rfl)
    clear hs hD
    go_enter Tryd.func14, Tryd.ntmps14
    go_wp2
    go_ret2
    exact ⟨by rw [HA.out]; rfl, Below.refl _ _⟩
  have HO : Hid (codeOk l = l.all insOk) := by unfold Hid codeOk; rw [decide_eq_true (show l.length ≤ 3000 by omega)]; rfl
  clear hs hD
  go_enter Tryd.func14, Tryd.ntmps14
  go_wp2_with fail
  go_loopg [14] l.length (fun g i wr => ∃ k : Nat, g = l.length - k ∧ k ≤ l.length ∧ i = .int .i64 (k : Int) ∧ Hid (l.all insOk = (l.drop k).all insOk) ∧ Below w.heap.size w wr)
  case atStart => exact ⟨0, rfl, by omega, rfl, rfl, Below.refl _ _⟩
  case round =>
    obtain ⟨k, hg, hk, rfl, HL, hW⟩ := hrel
    by_cases hlt : (k : Int) < (l.length : Int)
    · have hk' : k < l.length := by omega
      obtain ⟨d, hd⟩ : ∃ d, d = l.getD k default := ⟨_, rfl⟩
      have hall := insAll_drop hk' HL.out
      have hds := HS.out k hk'
      have hcl : ∀ j u, (instrL d)[j]? = some u → wr.cell? ⟨bl, k * 3 + j, none⟩ = some u := fun j u hu => (hW.cell (p := ⟨bl, k * 3 + j, none⟩) hbl).trans (HD.out k j u hk' (by rw [← hd]; exact hu))
      rw [← hd] at hall hds
      obtain ⟨a, b, c⟩ := d
      have c0 := hcl 0 (.int .i64 a) rfl
      have c1 := hcl 1 (.int .i64 b) rfl
      have c2 := hcl 2 (.string c) rfl
      rw [Nat.add_zero] at c0
      simp only at hds
      have HALL := hideT' hall
      have hWs := hW.size
      have hWn : Below w.heap.size w (wr.alloc (.cells #[.int .i64 a, .int .i64 b, .string c] 43)) := hW.alloc hWs _
      have HRN := hideT' (RowAt.new wr 43 #[.int .i64 a, .int .i64 b, .string c])
      have HC := hideT' (l2CutB_any 10 10 rfl c (wr.alloc (.cells #[.int .i64 a, .int .i64 b, .string c] 43)) (by unfold maxLen; omega))
      clear hd hall hcl
      go_wp2_with fail
      refine HC.out.mono ?_
      rintro e w1 ⟨⟨u, v, rfl, _, _⟩, hB1⟩
      have hW1 := hWn.trans (hB1.mono (by simpa using Nat.le_succ_of_le hWs))
      have hr := RowAt.below HRN.out hB1 (by simp)
      have f0 : w1.cell? ⟨wr.heap.size, 0, none⟩ = some (.int .i64 a) := by rw [cell_of_row w1 _ _ _ _ _ hr]; rfl
      have f1 : w1.cell? ⟨wr.heap.size, 1, none⟩ = some (.int .i64 b) := by rw [cell_of_row w1 _ _ _ _ _ hr]; rfl
      have f2 : w1.cell? ⟨wr.heap.size, 2, none⟩ = some (.string c) := by rw [cell_of_row w1 _ _ _ _ _ hr]; rfl
      rw [cutB_has]
      obtain ⟨q, hq⟩ : ∃ q, q = c.data.toList.contains 10 := ⟨_, rfl⟩
      rw [← hq]
      have HQ := hideT' hq
      clear hq hB1 hr c0 c1 c2
      have HN : Hid (insOk (a, b, c) = false → codeAns l = .returned (.tuple #[.string ⟨#[]⟩, .bool false])) := fun h => codeAns_no (by rw [HO.out, HALL.out, h]; rfl)
      cases q with
      | true =>
        have HA := hideT' (HN.out (by unfold insOk; rw [← HQ.out]; simp))
        go_wp2
        go_ret2
        exact ⟨by rw [HA.out]; rfl, hW1⟩
      | false =>
      go_wp2_with fail
      refine (l1In_any a 1 13 w1).mono ?_
      rintro e w2 ⟨rfl, rfl⟩
      obtain ⟨q1, hq1⟩ : ∃ q, q = (decide ((1 : Int) ≤ a) && decide (a ≤ 13)) := ⟨_, rfl⟩
      rw [← hq1]
      have HQ1 := hideT' hq1
      clear hq1
      cases q1 with
      | false =>
        have HA := hideT' (HN.out (by unfold insOk; rw [← HQ1.out]; rfl))
        go_wp2
        go_ret2
        exact ⟨by rw [HA.out]; rfl, hW1⟩
      | true =>
      go_wp2_with fail
      refine (l1In_any b 0 100000 w2).mono ?_
      rintro e w3 ⟨rfl, rfl⟩
      obtain ⟨q2, hq2⟩ : ∃ q, q = (decide ((0 : Int) ≤ b) && decide (b ≤ 100000)) := ⟨_, rfl⟩
      rw [← hq2]
      have HQ2 := hideT' hq2
      clear hq2
      cases q2 with
      | false =>
        have HA := hideT' (HN.out (by unfold insOk; rw [← HQ1.out, ← HQ2.out]; rfl))
        go_wp2
        go_ret2
        exact ⟨by rw [HA.out]; rfl, hW1⟩
      | true =>
      by_cases hsz : (1500 : Int) < (c.size : Int)
      · have HA := hideT' (HN.out (by unfold insOk; rw [← HQ1.out, ← HQ2.out, decide_eq_false (show ¬ (a, b, c).2.2.size ≤ 1500 by simp only; omega)]; rfl))
        go_wp2
        go_ret2
        exact ⟨by rw [HA.out]; rfl, hW1⟩
      have HL2 : Hid (l.all insOk = (l.drop (k + 1)).all insOk) := by
        unfold Hid
        have : insOk (a, b, c) = true := by unfold insOk; rw [← HQ1.out, ← HQ2.out, ← HQ.out, decide_eq_true (show (a, b, c).2.2.size ≤ 1500 by simp only; omega)]; rfl
        rw [HALL.out, this]; rfl
      go_wp2
      go_roundg (l.length - (k + 1))
      case measure => omega
      case rel => exact ⟨k + 1, rfl, by omega, by go_num, HL2, hW1⟩
    · have hall : l.all insOk = true := by rw [HL.out, List.drop_eq_nil_of_le (by omega)]; rfl
      have HA : Hid (codeAns l = .returned (.tuple #[.string ⟨(codeTxt l).toArray⟩, .bool true])) := codeAns_yes (by rw [HO.out, hall])
      have HC := hideT' (l6Text_any l _ wr (by omega) hall (HI.out.below hW))
      clear hall
      go_wp2_with fail
      refine HC.out.mono ?_
      rintro e w2 ⟨rfl, hB2⟩
      have hW2 := hW.trans (hB2.mono hW.size)
      go_wp2
      go_ret2
      exact ⟨by rw [HA.out]; rfl, hW2⟩
end Go.Proofs.YtkmjpebfaodfaaaDoor
