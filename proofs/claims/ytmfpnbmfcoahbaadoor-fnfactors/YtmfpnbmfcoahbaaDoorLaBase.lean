/-
  What spec.la10, laShift, laCut, laMod answer.
-/
import Derived.Test.YtmfpnbmfcoahbaaDoorMoreMath
import Derived.Test.YtmfpnbmfcoahbaaDoorRecs
import Derived.Test.YtmfpnbmfcoahbaaDoorBaseRow
import Derived.Test.YtmfpnbmfcoahbaaDoorBaseHeld
import Derived.Test.YtmfpnbmfcoahbaaDoorPkSpecText
import Derived.Test.YtmfpnbmfcoahbaaDoorPkSpecSub
namespace Go.Proofs.YtmfpnbmfcoahbaaDoor
open Go.RowKit
set_option linter.unusedVariables false

def byL (x : Int) : List Value := [.int .u8 x]
theorem byL_len (x : Int) : (byL x).length = 1 := rfl
theorem by_flat (n : Nat) : (List.replicate n (0 : Int)).flatMap byL = Lib.byteCells (List.replicate n 0) := by
  induction n with
  | zero => rfl
  | succ n ih => rw [List.replicate_succ, List.flatMap_cons, ih, List.replicate_succ]; rfl
theorem by_make (n : Nat) (hn : n ≤ 1048576) (w : World) : (Instr.makeSlice 22 (.int .i64 (n : Int)) (.int .i64 (n : Int))).run Tryd.prog w = .ok (.slice (some ⟨w.heap.size, 0, none⟩) n n) (w.alloc (.cells (Lib.byteCells (List.replicate n 0)).toArray 5)) := by
  obtain ⟨i, hi, hz, hs, hb⟩ := u8_info
  have hr := run_make (P := Tryd.prog) w 22 5 i _ Tryd.underlying22 hi hz .i64 .i64 n n (by omega) (Int.le_refl _) (by rw [hb]; omega) (by omega)
  simp only [Int.toNat_natCast, hs] at hr
  have e : ((List.replicate n (0 : Int)).flatMap byL).toArray = (Lib.byteCells (List.replicate n 0)).toArray := by rw [by_flat]
  rw [hr, ← e, ← made_rec byL 1 byL_len _ (0 : Int) (by rfl) n]
  rfl
theorem by_set (t : List UInt8) (k : Nat) (c : UInt8) (x : Int) (hx : x = (c.toNat : Int)) : (Lib.byteCells t).toArray.setIfInBounds k (.int .u8 x) = (Lib.byteCells (t.set k c)).toArray := by
  apply Array.ext'
  subst hx
  simp [Lib.byteCells, List.map_set]
theorem by_size : (Tryd.prog.info? 5).map (·.size) = some 1 := by kernel_rfl
theorem by_row {w : World} {q : Nat} {t : List UInt8} (h : RowAt w q 5 (Lib.byteCells t).toArray) : Row w q (.slice (some ⟨q, 0, none⟩) t.length t.length) t := by
  refine ⟨q, t.length, rfl, Nat.le_refl _, RowAt.lt h, Nat.le_refl _, fun j u hu => ?_, fun j hj => ⟨?_, frozen_of_row w q _ _ _ h⟩⟩
  · rw [Nat.zero_add, cell_of_row w q j _ _ _ h]; simpa using hu
  · rw [Nat.zero_add, cell_of_row w q j _ _ _ h]; simp [Lib.byteCells, hj]
theorem fill_set (m k : Nat) (h : k < m) : (List.replicate k (48 : UInt8) ++ List.replicate (m - k) 0).set k 48 = List.replicate (k + 1) 48 ++ List.replicate (m - (k + 1)) 0 := by
  rw [List.set_append_right _ _ (by simp), List.length_replicate, Nat.sub_self, show m - k = (m - (k + 1)) + 1 by omega, List.replicate_succ, List.set_cons_zero, List.replicate_succ', List.append_assoc]; rfl

set_option maxHeartbeats 1000000 in
set_option maxRecDepth 100000 in
theorem la10_any (n : Nat) (w : World) (hn : n ≤ 5000) :
    Calls Tryd.prog 87 #[.int .i64 (n : Int)] w fun e w' => e = .returned (.string ⟨(49 :: zerosL n).toArray⟩) ∧ Below w.heap.size w w' := by
  have hw64 : IntKind.i64.wrap ((n : Int) + 1) = ((n + 1 : Nat) : Int) := by rw [IntKind.wrap_i64]; omega
  have hmk := by_make (n + 1) (by omega)
  obtain ⟨m, hm⟩ : ∃ m, m = n + 1 := ⟨_, rfl⟩
  rw [← hm] at hw64 hmk
  have hm2 : m ≤ 5001 := by omega
  have HM := hideT hm
  have HROW := hideT (RowAt.new w 5 (Lib.byteCells (List.replicate m 0)).toArray)
  have hB : Below w.heap.size w (w.alloc (.cells (Lib.byteCells (List.replicate m 0)).toArray 5)) := (Below.refl _ _).alloc (Nat.le_refl _) _
  have HB := hideT hB
  clear hm hB
  go_enter Tryd.func87, Tryd.ntmps87
  go_wp2_with fail
  clear hmk
  go_loopg [10] m (fun g i wr => ∃ k : Nat, g = m - k ∧ k ≤ m ∧ i = .int .i64 (k : Int) ∧ Hid (RowAt wr w.heap.size 5 (Lib.byteCells (List.replicate k 48 ++ List.replicate (m - k) 0)).toArray) ∧ Hid (Below w.heap.size w wr))
  case atStart => exact ⟨0, rfl, by omega, rfl, HROW.out, HB.out⟩
  case round =>
    obtain ⟨k, hg, hk, rfl, HRW, HBL⟩ := hrel
    by_cases hkn : (k : Int) < (m : Int)
    · have hszt : k < (Lib.byteCells (List.replicate k 48 ++ List.replicate (m - k) 0)).toArray.size := by simp [Lib.byteCells]; omega
      go_wp2_with (refine store_at rfl 5 _ _ rfl rfl w.heap.size k _ rfl rfl by_size rfl 5 _ HRW.out hszt ?_; intro w4 rw4 hg4 hs4)
      go_roundg (m - (k + 1))
      case measure => omega
      case rel =>
        refine ⟨k + 1, rfl, by omega, by go_num, ?_, HBL.out.grown hg4 (by have := HBL.out.size; omega) (by intro k hk; cases hk; omega)⟩
        unfold Hid
        rw [← fill_set m k (by omega), ← by_set _ _ 48 48 rfl]
        exact rw4
    · obtain rfl : k = m := by omega
      have hszt : 0 < (Lib.byteCells (List.replicate k 48 ++ List.replicate (k - k) 0)).toArray.size := by have := HM.out; simp [Lib.byteCells]; omega
      have h0k : (0 : Int) < (k : Int) := by have := HM.out; omega
      go_wp2_with (refine store_at rfl 5 _ _ rfl rfl w.heap.size 0 _ rfl rfl by_size rfl 5 _ HRW.out hszt ?_; intro w4 rw4 hg4 hs4; refine Hid.out ?_)
      unfold Hid
      have hrow : RowAt w4 w.heap.size 5 (Lib.byteCells (49 :: zerosL n)).toArray := by
        have h1 : RowAt w4 w.heap.size 5 ((Lib.byteCells (List.replicate k 48 ++ List.replicate (k - k) 0)).toArray.setIfInBounds 0 (.int .u8 49)) := rw4
        rw [by_set _ _ 49 49 rfl, Nat.sub_self, List.replicate_zero, List.append_nil, HM.out, List.replicate_succ, List.set_cons_zero] at h1
        exact h1
      have hcv := (by_row hrow).conv
      rw [show (49 :: zerosL n).length = k by have := HM.out; simp [zerosL]; omega] at hcv
      have hB4 : Below w.heap.size w w4 := HBL.out.grown hg4 (by have := HBL.out.size; omega) (by intro k hk; cases hk; omega)
      clear rw4 hrow hg4 hs4
      go_wp2
      go_ret
      exact ⟨rfl, hB4⟩

set_option maxHeartbeats 1000000 in
set_option maxRecDepth 100000 in
theorem laShift_any (a : ByteArray) (n : Nat) (w : World) (hsa : a.size ≤ 5000) (hn : n ≤ 5000) (ha : canonB a.data.toList = true) :
    Calls Tryd.prog 65 #[.string a, .int .i64 (n : Int)] w fun e w' => ∃ s : ByteArray, e = .returned (.string s) ∧ canonB s.data.toList = true ∧ dval s.data.toList = dval a.data.toList * 10 ^ n ∧ Below w.heap.size w w' := by
  by_cases hz : a.data.toList = [48]
  · have hz' : (a.toList == [48]) = true := str_eq hz
    have HZ : Hid (dval a.data.toList = dval a.data.toList * 10 ^ n) := by unfold Hid; rw [hz, show dval [48] = 0 by decide, Nat.zero_mul]
    have HA := hideT ha
    clear hz ha
    go_enter Tryd.func65, Tryd.ntmps65
    go_wp2
    go_ret
    exact ⟨a, rfl, HA.out, HZ.out, Below.refl _ _⟩
  · have hz' : (a.toList == [48]) = false := str_ne hz
    have h0 : dval a.data.toList ≠ 0 := fun h => hz ((canon_zero ha).1 h)
    have HS := hideT (shift_canon ha h0 n)
    have hsz : (⟨(49 :: zerosL n).toArray⟩ : ByteArray).size = n + 1 := by simp [ByteArray.size, zerosL]
    obtain ⟨t, ht⟩ : ∃ t : ByteArray, t = ⟨(49 :: zerosL n).toArray⟩ := ⟨_, rfl⟩
    rw [← ht] at hsz
    have h1 : (1 : Int) ≤ (t.size : Int) := by omega
    have hx : t.extract 1 t.size = ⟨(zerosL n).toArray⟩ := by
      apply WideShapes.bytes_inj
      rw [ext_tail, ht]; rfl
    have hadd : ¬ 9223372036854775807 < a.size + (t.extract 1 t.size).size := by
      have hzs : (⟨(zerosL n).toArray⟩ : ByteArray).size = n := by simp [ByteArray.size, zerosL]
      rw [hx, hzs]; omega
    have HX : Hid ((a ++ t.extract 1 t.size).data.toList = a.data.toList ++ zerosL n) := by unfold Hid; rw [hx]; simp
    have HT := hideT ht
    clear hz ha h0 ht hx hsz
    go_enter Tryd.func65, Tryd.ntmps65
    go_wp2_with fail
    refine (la10_any n _ hn).mono ?_
    rintro e w1 ⟨rfl, hW1⟩
    rw [← HT.out]
    go_wp2
    go_ret
    exact ⟨_, rfl, by rw [HX.out]; exact HS.out.1, by rw [HX.out]; exact HS.out.2, hW1⟩

set_option maxHeartbeats 1000000 in
set_option maxRecDepth 100000 in
/-- A number is cut above its last m digits. -/
theorem laCut_any (a : ByteArray) (m : Nat) (w : World) (hsa : a.size ≤ 5000) (hm : 0 < m) (hm2 : m ≤ 5000) (ha : canonB a.data.toList = true) :
    Calls Tryd.prog 64 #[.string a, .int .i64 (m : Int)] w fun e w' => ∃ s t : ByteArray, e = .returned (.tuple #[.string s, .string t]) ∧ canonB s.data.toList = true ∧ dval s.data.toList = dval a.data.toList / 10 ^ m ∧ canonB t.data.toList = true ∧ dval t.data.toList = dval a.data.toList % 10 ^ m ∧ Below w.heap.size w w' := by
  have hlen : a.data.toList.length = a.size := by simp
  by_cases hle : (a.size : Int) ≤ (m : Int)
  · have hlt : dval a.data.toList < 10 ^ m := Nat.lt_of_lt_of_le (dval_lt _ (canon_all ha)) (Nat.pow_le_pow_right (by decide) (by omega))
    have HE : Hid (canonB a.data.toList = true ∧ 0 = dval a.data.toList / 10 ^ m ∧ dval a.data.toList = dval a.data.toList % 10 ^ m) := ⟨ha, (Nat.div_eq_of_lt hlt).symm, (Nat.mod_eq_of_lt hlt).symm⟩
    clear ha hlt hlen
    go_enter Tryd.func64, Tryd.ntmps64
    go_wp2
    go_ret2
    exact ⟨⟨#[48]⟩, a, rfl, by decide, by rw [← HE.out.2.1]; decide, HE.out.1, HE.out.2.2, Below.refl _ _⟩
  · obtain ⟨k, hk⟩ : ∃ k, k = a.size - m := ⟨_, rfl⟩
    have hwk : IntKind.i64.wrap ((a.size : Int) - (m : Int)) = (k : Int) := by rw [IntKind.wrap_i64]; omega
    have hk0 : 0 < k := by omega
    have hk1 : (k : Int) ≤ (a.size : Int) := by omega
    have hcv := cut_val (canon_all ha) k m (by omega)
    have HH : Hid (canonB (a.extract 0 k).data.toList = true ∧ dval (a.extract 0 k).data.toList = dval a.data.toList / 10 ^ m) := by
      unfold Hid; rw [ext_head]; exact ⟨canon_take ha k hk0, hcv.1⟩
    obtain ⟨low, hlow⟩ : ∃ low, low = a.extract k a.size := ⟨_, rfl⟩
    have hl1 : low.data.toList = a.data.toList.drop k := by rw [hlow, ext_tail]
    have hls : low.size = m := by
      have h2 : low.data.toList.length = low.size := by simp
      rw [← h2, hl1, List.length_drop]; omega
    have HL : Hid (low.data.toList.all isDig = true ∧ dval low.data.toList = dval a.data.toList % 10 ^ m) := by
      unfold Hid
      refine ⟨?_, by rw [hl1]; exact hcv.2⟩
      rw [hl1, List.all_eq_true]
      intro x hx
      exact List.all_eq_true.1 (canon_all ha) x (List.mem_of_mem_drop hx)
    have HLW := hideT hlow
    have HK := hideT hk
    have HLS := hideT hls
    clear hk hcv ha hlen hl1 hls
    go_enter Tryd.func64, Tryd.ntmps64
    go_wp2_with fail
    rw [← HLW.out]
    clear hlow
    go_loopg [8] m (fun g i wr => ∃ j : Nat, g = m - j ∧ j < m ∧ i = .int .i64 (j : Int) ∧ Hid (∀ q, q < j → low.data.toList.getD q 0 = 48) ∧ wr = w)
    case atStart => exact ⟨0, rfl, hm, rfl, fun q hq => by omega, rfl⟩
    case round =>
      obtain ⟨j, hg, hj, rfl, HZ, rfl⟩ := hrel
      have hjs : j < low.size := by have := HLS.out; omega
      have hfin : (j + 1 < low.size → low[j] ≠ 48) → Hid (canonB (low.extract j low.size).data.toList = true ∧ dval (low.extract j low.size).data.toList = dval a.data.toList % 10 ^ m) := fun h => by
        unfold Hid
        have hll : low.data.toList.length = low.size := by simp
        have := strip_canon HL.out.1 j (by omega) HZ.out (fun h2 => by
          have h3 := h (by omega)
          simp only [List.getD, getN j hjs, Option.getD_some]; exact h3)
        rw [ext_tail, this.2]; exact ⟨this.1, HL.out.2⟩
      have hj2 : (j : Int) ≤ (low.size : Int) := by omega
      have hw1 : IntKind.i64.wrap ((j : Int) + 1) = (j : Int) + 1 := by rw [IntKind.wrap_i64]; omega
      by_cases hlt : (j : Int) + 1 < (low.size : Int)
      · have hjl : (j : Int) < (low.size : Int) := by omega
        by_cases h48 : low[j] = 48
        · have h48' : (low[j].toNat : Int) = 48 := by rw [h48]; rfl
          have HZ2 : Hid (∀ q, q < j + 1 → low.data.toList.getD q 0 = 48) := by
            intro q hq
            by_cases e : q = j
            · subst e
              have hll : low.data.toList.length = low.size := by simp
              have : low.data.toList[q]? = some low[q] := getN q hjs
              simp only [List.getD, this, Option.getD_some]; exact h48
            · exact HZ.out q (by omega)
          clear h48 hfin
          go_wp2
          go_roundg (m - (j + 1))
          case measure => omega
          case rel => exact ⟨j + 1, rfl, by have := HLS.out; omega, by go_num, HZ2, rfl⟩
        · have h48' : ((low[j].toNat : Int) == 48) = false := by
            rw [beq_eq_false_iff_ne]
            intro e; apply h48; exact UInt8.toNat_inj.1 (by have : (48 : UInt8).toNat = 48 := rfl; omega)
          have HF := hfin (fun _ => h48)
          clear h48 hfin
          go_wp2_with fail
          refine held_begin0 (by kernel_rfl) ?_
          refine held_val0 0 (some 34) rfl rfl (by kernel_rfl) (by kernel_rfl) (by kernel_rfl) rfl (.string a) (fun _ => rfl) ?_
          simp only [Act.put, List.setIfInBounds_toArray, List.set_cons_zero, List.set_cons_succ]
          refine held_val0 1 (some 35) rfl rfl (by kernel_rfl) (by kernel_rfl) (by kernel_rfl) rfl (.int .i64 (k : Int)) (fun _ => rfl) ?_
          simp only [Act.put, List.setIfInBounds_toArray, List.set_cons_zero, List.set_cons_succ]
          refine held_val0 2 (some 36) rfl rfl (by kernel_rfl) (by kernel_rfl) (by kernel_rfl) rfl (.string (a.extract 0 k)) (fun _ => by go_simp) ?_
          simp only [Act.put, List.setIfInBounds_toArray, List.set_cons_zero, List.set_cons_succ]
          refine held_val0 3 (some 37) rfl rfl (by kernel_rfl) (by kernel_rfl) (by kernel_rfl) rfl (.string low) (fun _ => rfl) ?_
          simp only [Act.put, List.setIfInBounds_toArray, List.set_cons_zero, List.set_cons_succ]
          refine held_val0 4 (some 38) rfl rfl (by kernel_rfl) (by kernel_rfl) (by kernel_rfl) rfl (.int .i64 (j : Int)) (fun _ => rfl) ?_
          simp only [Act.put, List.setIfInBounds_toArray, List.set_cons_zero, List.set_cons_succ]
          refine held_val0 5 (some 39) rfl rfl (by kernel_rfl) (by kernel_rfl) (by kernel_rfl) rfl (.string (low.extract j low.size)) (fun _ => by go_simp) ?_
          simp only [Act.put, List.setIfInBounds_toArray, List.set_cons_zero, List.set_cons_succ]
          refine held_assign0 6 (some 4) (by kernel_rfl) rfl rfl _ rfl rfl (.string (a.extract 0 k)) rfl ?_
          simp only [Act.put, List.setIfInBounds_toArray, List.set_cons_zero, List.set_cons_succ]
          refine held_assign0 7 (some 5) (by kernel_rfl) rfl rfl _ rfl rfl (.string (low.extract j low.size)) rfl ?_
          simp only [Act.put, List.setIfInBounds_toArray, List.set_cons_zero, List.set_cons_succ]
          refine wpAnyH_done (by kernel_rfl) ?_ _
          refine NoPanic.normal ?_
          go_wp2
          (try simp only [Exit.inBlock, Exit.then]); refine bodyPost_ret (results_tmp2 rfl _ _ _) rfl ?_
          exact ⟨_, _, rfl, HH.out.1, HH.out.2, HF.out.1, HF.out.2, (Below.refl _ _).drew⟩
      · have HF := hfin (fun h => absurd (by omega) hlt)
        clear hfin
        go_wp2_with fail
        refine held_begin0 (by kernel_rfl) ?_
        refine held_val0 0 (some 34) rfl rfl (by kernel_rfl) (by kernel_rfl) (by kernel_rfl) rfl (.string a) (fun _ => rfl) ?_
        simp only [Act.put, List.setIfInBounds_toArray, List.set_cons_zero, List.set_cons_succ]
        refine held_val0 1 (some 35) rfl rfl (by kernel_rfl) (by kernel_rfl) (by kernel_rfl) rfl (.int .i64 (k : Int)) (fun _ => rfl) ?_
        simp only [Act.put, List.setIfInBounds_toArray, List.set_cons_zero, List.set_cons_succ]
        refine held_val0 2 (some 36) rfl rfl (by kernel_rfl) (by kernel_rfl) (by kernel_rfl) rfl (.string (a.extract 0 k)) (fun _ => by go_simp) ?_
        simp only [Act.put, List.setIfInBounds_toArray, List.set_cons_zero, List.set_cons_succ]
        refine held_val0 3 (some 37) rfl rfl (by kernel_rfl) (by kernel_rfl) (by kernel_rfl) rfl (.string low) (fun _ => rfl) ?_
        simp only [Act.put, List.setIfInBounds_toArray, List.set_cons_zero, List.set_cons_succ]
        refine held_val0 4 (some 38) rfl rfl (by kernel_rfl) (by kernel_rfl) (by kernel_rfl) rfl (.int .i64 (j : Int)) (fun _ => rfl) ?_
        simp only [Act.put, List.setIfInBounds_toArray, List.set_cons_zero, List.set_cons_succ]
        refine held_val0 5 (some 39) rfl rfl (by kernel_rfl) (by kernel_rfl) (by kernel_rfl) rfl (.string (low.extract j low.size)) (fun _ => by go_simp) ?_
        simp only [Act.put, List.setIfInBounds_toArray, List.set_cons_zero, List.set_cons_succ]
        refine held_assign0 6 (some 4) (by kernel_rfl) rfl rfl _ rfl rfl (.string (a.extract 0 k)) rfl ?_
        simp only [Act.put, List.setIfInBounds_toArray, List.set_cons_zero, List.set_cons_succ]
        refine held_assign0 7 (some 5) (by kernel_rfl) rfl rfl _ rfl rfl (.string (low.extract j low.size)) rfl ?_
        simp only [Act.put, List.setIfInBounds_toArray, List.set_cons_zero, List.set_cons_succ]
        refine wpAnyH_done (by kernel_rfl) ?_ _
        refine NoPanic.normal ?_
        go_wp2
        (try simp only [Exit.inBlock, Exit.then]); refine bodyPost_ret (results_tmp2 rfl _ _ _) rfl ?_
        exact ⟨_, _, rfl, HH.out.1, HH.out.2, HF.out.1, HF.out.2, (Below.refl _ _).drew⟩
end Go.Proofs.YtmfpnbmfcoahbaaDoor
