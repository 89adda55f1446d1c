/-
  The texts MarkText, MarkInstr, one behind the other, as one.
-/
import Derived.Test.YtpphkdgjojnfeaaDoorRecs2
import Derived.Test.YtpphkdgjojnfeaaDoorRecInstr

/-
  What the laws' own marks of texts are.
-/
namespace Go.Proofs.YtpphkdgjojnfeaaDoor
open Go.RowKit
set_option linter.unusedVariables false

theorem dec_step (q : Nat) (h : ¬ q < 10) : Lib.decDigits q = Lib.decDigits (q / 10) ++ [db (q % 10)] := by
  rw [Lib.decDigits, dif_neg h]; rfl
theorem dec_one (q : Nat) (h : q < 10) : Lib.decDigits q = [db q] := by
  rw [Lib.decDigits, dif_pos h]; rfl

set_option maxHeartbeats 1000000 in
set_option maxRecDepth 100000 in
theorem markText_any (k : Int) (h0 : 0 < k) (h1 : k ≤ 1099511627776) (w : World) :
    Calls Tryd.prog 27 #[.int .i64 k] w fun e w' => e = .returned (.string (markT k)) ∧ Below w.heap.size w w' := by
  obtain ⟨K, rfl⟩ := Int.eq_ofNat_of_zero_le (Int.le_of_lt h0)
  obtain ⟨x, hx⟩ : ∃ x : Int, x = (K : Int) := ⟨_, rfl⟩
  rw [← hx] at h0 h1 ⊢
  have HX := hideT' hx
  clear hx
  go_enter Tryd.func27, Tryd.ntmps27
  go_wp2_with fail
  go_loopg [0, 3] K (fun g y o wr => ∃ (q : Int) (t : List UInt8), y = .int .i64 q ∧ o = .string ⟨t.toArray⟩ ∧ 0 ≤ q ∧ q ≤ 1099511627776 ∧ Hid (q = (g : Int) ∧ t.length ≤ 20 ∧ (g = 0 → t = Lib.decDigits K) ∧ (0 < g → Lib.decDigits K = Lib.decDigits g ++ t)) ∧ Below w.heap.size w wr)
  case atStart =>
    refine ⟨x, [], by go_num, rfl, by omega, h1, ⟨HX.out, by simp, fun h => ?_, fun _ => by simp⟩, Below.refl _ _⟩
    have := HX.out; omega
  case round =>
    obtain ⟨q, t, rfl, rfl, hq0, hq1, HQ, hW⟩ := hrel
    by_cases hz : q = 0
    · subst hz
      have HT : Hid (t = Lib.decDigits K) := HQ.out.2.2.1 (by have := HQ.out.1; omega)
      have htl := HQ.out.2.1
      have hsz : ¬ 9223372036854775807 < (⟨#[109]⟩ : ByteArray).size + (⟨t.toArray⟩ : ByteArray).size := by
        have : (⟨t.toArray⟩ : ByteArray).size = t.length := by simp [ByteArray.size]
        rw [this]; show ¬ _ < 1 + t.length; omega
      clear htl
      go_wp2
      go_ret
      refine ⟨?_, hW⟩
      unfold markT
      rw [HX.out, Int.toNat_natCast, ← HT.out]
      show Ending.returned (.string ((⟨#[109]⟩ : ByteArray) ++ ⟨t.toArray⟩)) = _
      congr 2
    · have hqp : 0 < q := by omega
      obtain ⟨d, hd⟩ : ∃ d : Nat, d = q.toNat % 10 := ⟨_, rfl⟩
      have hd10 : d < 10 := by omega
      have htm : q.tmod 10 = (d : Int) := by rw [Int.tmod_eq_emod_of_nonneg hq0]; omega
      obtain ⟨r, hr⟩ : ∃ r : Int, r = ((q.toNat / 10 : Nat) : Int) := ⟨_, rfl⟩
      have htd : q.tdiv 10 = r := by rw [Int.tdiv_eq_ediv_of_nonneg hq0]; omega
      have hr0 : 0 ≤ r := by omega
      have hrq : r < q := by omega
      have hw1 : IntKind.i64.wrap r = r := by rw [IntKind.wrap_i64]; omega
      have hw2 : IntKind.i64.wrap (48 + (d : Int)) = 48 + (d : Int) := by rw [IntKind.wrap_i64]; omega
      have hw3 : IntKind.u8.wrap (48 + (d : Int)) = 48 + (d : Int) := by
        have : IntKind.u8.wrap (48 + (d : Int)) = (48 + (d : Int)) % 256 := by simp [IntKind.wrap, IntKind.signed, IntKind.bits]
        rw [this]; omega
      have hcv := conv_new wr d hd10
      have htl := HQ.out.2.1
      have hsz : ¬ 9223372036854775807 < (⟨#[db d]⟩ : ByteArray).size + (⟨t.toArray⟩ : ByteArray).size := by
        have : (⟨t.toArray⟩ : ByteArray).size = t.length := by simp [ByteArray.size]
        rw [this]; show ¬ _ < 1 + t.length; omega
      have HD : Hid (d = q.toNat % 10 ∧ r = ((q.toNat / 10 : Nat) : Int)) := ⟨hd, hr⟩
      have hW2 := hW.alloc hW.size (.cells #[.int .u8 (48 + (d : Int))] 5)
      clear hd hr htl
      go_wp2
      go_roundg r.toNat
      case measure => have := HQ.out.1; omega
      case rel =>
        obtain ⟨e1, e2, e3, e4⟩ := HQ.out
        obtain ⟨e5, e6⟩ := HD.out
        refine ⟨r, db d :: t, by go_num, ?_, hr0, by omega, ⟨by omega, ?_, fun h => ?_, fun h => ?_⟩, hW2⟩
        · show Value.string ((⟨#[db d]⟩ : ByteArray) ++ ⟨t.toArray⟩) = _
          congr 1
        · have h5 := e4 (by omega)
          have h6 := (canon_len_le (dec_canon K).1 20 (by omega)).2 (by rw [(dec_canon K).2]; have := HX.out; omega)
          rw [h5, List.length_append] at h6
          have h7 : 0 < (Lib.decDigits gk).length := by
            by_cases hh : gk < 10
            · rw [dec_one gk hh]; simp
            · rw [dec_step gk hh]; simp
          simp only [List.length_cons]
          omega
        · have h5 := e4 (by omega)
          have hh : gk < 10 := by omega
          rw [dec_one gk hh] at h5
          have : d = gk := by omega
          rw [h5, this]; rfl
        · have h5 := e4 (by omega)
          have hh : ¬ gk < 10 := by omega
          rw [dec_step gk hh] at h5
          have hdd : d = gk % 10 := by omega
          have hrr : r.toNat = gk / 10 := by omega
          rw [h5, hdd, hrr, List.append_assoc]; rfl
theorem run_loadS {o : Oper} {a : Act} {w : World} {x : Operand} {v : Value} {A : Addr} (ho : o.op = .load 9 x) (hx : a.eval x = .pointer (some A)) (hc : w.cell? A = some v) :
    (execOp a.eval o).run Tryd.prog w = .ok (.value v) w := by
  have ha : ∀ w, (isAgg 9).run Tryd.prog w = .ok false w := run_isAgg_plain Tryd.underlying9 rfl
  unfold execOp
  simp only [ho, hx]
  go_simp
theorem ownR_below {w w' : World} {B c n : Nat} {T : TypeId} {v : Value} {xs : List Value} (h : w.ownsRow B T c v n xs) (hB : Below w.heap.size w w') : w'.ownsRow B T c v n xs := by
  refine ⟨h.1, ?_⟩
  rcases h.2 with h1 | ⟨g, cap, cur, h1, h2, h3, h4⟩
  · exact .inl h1
  · have hlt : g < w.heap.size := (Array.getElem?_eq_some_iff.1 h3).1
    exact .inr ⟨g, cap, cur, h1, h2, by rw [hB.block g (by omega)]; exact h3, h4⟩
end Go.Proofs.YtpphkdgjojnfeaaDoor

/-
  Rows of Instr that are answers: what the laws' own helpers over them say.
-/
namespace Go.Proofs.YtpphkdgjojnfeaaDoor
open Go.RowKit
set_option linter.unusedVariables false
/-- One that is marked. -/
def markInstr (k : Int) : Int × Int × ByteArray := (k, k + 1, markT (k + 1 + 1))
theorem runX_instr {o : Oper} {a : Act} {w : World} (x : Operand) (ho : o.op = .load 37 x) (b i : Nat) (hx : a.eval x = .pointer (some ⟨b, i * 3, none⟩)) (d : Int × Int × ByteArray) (hD : w.rangeAt b (i * 3) (instrL d)) :
    (execOp a.eval o).run Tryd.prog w = .ok (.value (.agg (instrL d).toArray)) w := by
  have h := run_loadAt_mid (P := Tryd.prog) w b (i * 3) 37 (instrL d) _ hD Tryd.underlying37 rfl zero_instr.2
  unfold execOp
  simp only [ho, hx, Sem.run_bind, h, Result.andThen_ok]
  rfl
set_option maxHeartbeats 1000000 in
set_option maxRecDepth 100000 in
theorem eqInstrS_in (v1 v2 : Value) (l : List (Int × Int × ByteArray)) (w : World) (hl : l.length ≤ 1048576) (h1 : InR w v1 instrL 3 l) (h2 : InR w v2 instrL 3 l) :
    Calls Tryd.prog 9 #[v1, v2] w fun e w' => e = .returned (.bool true) ∧ Below w.heap.size w w' := by
  obtain ⟨o1, cap1, rfl, h1⟩ := h1
  obtain ⟨o2, cap2, rfl, h2⟩ := h2
  rcases Classical.em (l = []) with rfl | hne
  · clear h1 h2
    go_enter Tryd.func9, Tryd.ntmps9
    go_wp2_with fail
    go_loopg [5] 0 (fun g i wr => i = .int .i64 0 ∧ wr = w)
    case atStart => exact ⟨rfl, rfl⟩
    case round =>
      obtain ⟨rfl, rfl⟩ := hrel
      go_wp2
      go_ret
      exact ⟨rfl, Below.refl _ _⟩
  obtain ⟨b1, rfl, hb1, h1⟩ := h1 hne
  obtain ⟨b2, rfl, hb2, h2⟩ := h2 hne
  have H1 := hideT' h1
  have H2 := hideT' h2
  clear h1 h2 hne
  go_enter Tryd.func9, Tryd.ntmps9
  go_wp2_with fail
  go_loopg [5] l.length (fun g i wr => ∃ k : Nat, g = l.length - k ∧ k ≤ l.length ∧ i = .int .i64 (k : Int) ∧ Below w.heap.size w wr)
  case atStart => exact ⟨0, rfl, by omega, rfl, Below.refl _ _⟩
  case round =>
    obtain ⟨k, hg, hk, rfl, hW⟩ := hrel
    by_cases hlt : (k : Int) < (l.length : Int)
    · have hk' : k < l.length := by omega
      obtain ⟨d, hd⟩ : ∃ d, d = l.getD k default := ⟨_, rfl⟩
      have HDM := hideT' hd
      have h1 := H1.out
      have h2 := H2.out
      clear hd
      have hrg : ∀ w', Below w.heap.size w w' → w'.rangeAt b1 (k * 3) (instrL d) ∧ w'.rangeAt b2 (k * 3) (instrL d) := fun w' hB => by
        refine ⟨fun j u hu => ?_, fun j u hu => ?_⟩
        · rw [hB.cell (p := ⟨b1, k * 3 + j, none⟩) hb1]; rw [HDM.out] at hu; exact h1 k j u hk' hu
        · rw [hB.cell (p := ⟨b2, k * 3 + j, none⟩) hb2]; rw [HDM.out] at hu; exact h2 k j u hk' hu
      have HRG := hideT' hrg
      have hS := hrg wr.drew (Below.drew hW)
      clear h1 h2 hrg
      go_wp2_with fail
      refine held_begin (fun w' => w'.rangeAt b1 (k * 3) (instrL d) ∧ w'.rangeAt b2 (k * 3) (instrL d)) (by kernel_rfl) ?_
      refine held_val 0 (some 17) rfl rfl (by kernel_rfl) (by kernel_rfl) (by kernel_rfl) noPanic_put rfl (.slice (some ⟨b1, 0, none⟩) l.length cap1) (fun _ => rfl) hS ?_
      simp only [Act.put, List.setIfInBounds_toArray, List.set_cons_zero, List.set_cons_succ]
      refine held_val 1 (some 18) rfl rfl (by kernel_rfl) (by kernel_rfl) (by kernel_rfl) noPanic_put rfl (.int .i64 (k : Int)) (fun _ => rfl) hS ?_
      simp only [Act.put, List.setIfInBounds_toArray, List.set_cons_zero, List.set_cons_succ]
      refine held_val 2 (some 19) rfl rfl (by kernel_rfl) (by kernel_rfl) (by kernel_rfl) noPanic_put rfl (.pointer (some ⟨b1, k * 3, none⟩)) (fun _ => by go_simp) hS ?_
      simp only [Act.put, List.setIfInBounds_toArray, List.set_cons_zero, List.set_cons_succ]
      refine held_valS 3 (some 20) rfl rfl (by kernel_rfl) (by kernel_rfl) (by kernel_rfl) noPanic_put rfl (.agg (instrL d).toArray) (fun _ hw' => runX_instr _ rfl b1 k rfl d hw'.1) hS ?_
      simp only [Act.put, List.setIfInBounds_toArray, List.set_cons_zero, List.set_cons_succ]
      refine held_val 4 (some 21) rfl rfl (by kernel_rfl) (by kernel_rfl) (by kernel_rfl) noPanic_put rfl (.slice (some ⟨b2, 0, none⟩) l.length cap2) (fun _ => rfl) hS ?_
      simp only [Act.put, List.setIfInBounds_toArray, List.set_cons_zero, List.set_cons_succ]
      refine held_val 5 (some 22) rfl rfl (by kernel_rfl) (by kernel_rfl) (by kernel_rfl) noPanic_put rfl (.int .i64 (k : Int)) (fun _ => rfl) hS ?_
      simp only [Act.put, List.setIfInBounds_toArray, List.set_cons_zero, List.set_cons_succ]
      refine held_val 6 (some 23) rfl rfl (by kernel_rfl) (by kernel_rfl) (by kernel_rfl) noPanic_put rfl (.pointer (some ⟨b2, k * 3, none⟩)) (fun _ => by go_simp) hS ?_
      simp only [Act.put, List.setIfInBounds_toArray, List.set_cons_zero, List.set_cons_succ]
      refine held_valS 7 (some 24) rfl rfl (by kernel_rfl) (by kernel_rfl) (by kernel_rfl) noPanic_put rfl (.agg (instrL d).toArray) (fun _ hw' => runX_instr _ rfl b2 k rfl d hw'.2) hS ?_
      simp only [Act.put, List.setIfInBounds_toArray, List.set_cons_zero, List.set_cons_succ]
      refine held_call 8 (some 25) (by kernel_rfl) rfl rfl rfl 21 #[.agg (instrL d).toArray, .agg (instrL d).toArray] (by go_simp) _ (eqInstr_any d wr.drew) ?_
      rintro e w2 ⟨rfl, hW2⟩
      have hW2 : Below wr.heap.size wr w2 := ⟨hW2.os, hW2.tape, hW2.output, hW2.size, hW2.block⟩
      have hW3 := hW.trans (hW2.mono hW.size)
      have hS2 := HRG.out w2 hW3
      refine ⟨_, rfl, hS2, ?_⟩
      simp only [Act.put, List.setIfInBounds_toArray, List.set_cons_zero, List.set_cons_succ]
      refine held_val 9 (some 26) rfl rfl (by kernel_rfl) (by kernel_rfl) (by kernel_rfl) noPanic_put rfl (.bool false) (fun _ => by go_simp) hS2 ?_
      simp only [Act.put, List.setIfInBounds_toArray, List.set_cons_zero, List.set_cons_succ]
      refine wpAnyH_done (by kernel_rfl) ?_ _
      refine NoPanic.normal ?_
      go_wp2
      go_roundg (l.length - (k + 1))
      case measure => omega
      case rel => exact ⟨k + 1, rfl, by omega, by go_num, hW3⟩
    · go_wp2
      go_ret
      exact ⟨rfl, hW⟩
set_option maxHeartbeats 2000000 in
set_option maxRecDepth 100000 in
theorem markInstrS_own (v : Value) (n : Nat) (xs0 : List Value) (k : Int) (B : Nat) (w : World) (hk0 : 0 < k) (hk1 : k + 3 * (n : Int) ≤ 1099511627776) (h : w.ownsRow B 37 3 v n xs0) :
    Calls Tryd.prog 12 #[v, .int .i64 k] w fun e w' => e = .returned (.int .i64 (k + 3 * (n : Int))) ∧ OwnR w' B v 37 instrL 3 (markL markInstr 3 k n) ∧ w.grownBy w' v.ownBlock := by
  rcases h.2 with ⟨rfl, rfl⟩ | ⟨b, cap, cur, rfl, hB, _⟩
  · have hx : k + 3 * ((0 : Nat) : Int) = k := by simp
    rw [hx]
    clear hx hk1
    go_enter Tryd.func12, Tryd.ntmps12
    go_wp2_with fail
    go_loopg [1, 5] 0 (fun g x i wr => x = .int .i64 k ∧ i = .int .i64 0 ∧ wr = w)
    case atStart => exact ⟨rfl, rfl, rfl⟩
    case round =>
      obtain ⟨rfl, rfl, rfl⟩ := hrel
      go_wp2
      go_ret
      exact ⟨rfl, by simpa [OwnR, markL] using World.ownsRow_nil _ _ _ _, ⟨rfl, rfl, rfl, Nat.le_refl _, fun _ _ _ => rfl⟩⟩
  · obtain ⟨N, hN⟩ : ∃ N : Int, N = k + 3 * (n : Int) := ⟨_, rfl⟩
    have HN := hideT' hN
    have HB := hideT' hk1
    clear hN hk1
    go_enter Tryd.func12, Tryd.ntmps12
    go_wp2_with fail
    go_loopg [1, 5] n (fun g x i wr => ∃ (j : Nat) (y : Int) (xs : List Value), g = n - j ∧ j ≤ n ∧ i = .int .i64 (j : Int) ∧ x = .int .i64 y ∧ 0 < y ∧ y ≤ 1099511627776 ∧ Hid (y = k + 3 * (j : Int)) ∧ wr.ownsRow B 37 3 (.slice (some ⟨b, 0, none⟩) n cap) n xs ∧ Hid (Marked instrL markInstr 3 k j xs) ∧ w.grownBy wr (some b))
    case atStart => exact ⟨0, k, xs0, rfl, by omega, rfl, rfl, by omega, by have := HB.out; omega, by simp [Hid], h, (fun j hj => by omega : Marked instrL markInstr 3 k 0 xs0), ⟨rfl, rfl, rfl, Nat.le_refl _, fun _ _ _ => rfl⟩⟩
    case round =>
      clear h
      obtain ⟨j, x, xs, hg, hj, rfl, rfl, hx0, hx1, HX, hown, HM, hG⟩ := hrel
      by_cases hlt : (j : Int) < (n : Int)
      · have hj' : j < n := by omega
        have HJ : Hid (j * 3 + 3 ≤ n * 3) := by unfold Hid; omega
        have hx2 : x + 3 ≤ 1099511627776 := by have := HB.out; have := HX.out; omega
        go_wp2_with (first | (refine store_own rfl 3 _ _ rfl rfl b (j * 3) (.int .i64 (x)) rfl rfl size1_int rfl hown (by have := HJ.out; omega) ?_; intro w1 own1 hg1 hs1) | (refine store_own rfl 3 _ _ rfl rfl b (j * 3 + 1) (.int .i64 (x + 1)) rfl rfl size1_int rfl own1 (by have := HJ.out; omega) ?_; intro w2 own2 hg2 hs2))
        refine (markText_any (x + 1 + 1) (by omega) (by omega) _).mono ?_
        rintro e v2 ⟨rfl, hB2⟩
        have ownb2 := ownR_below own2 hB2
        go_wp2_with (first | (refine store_own rfl 9 _ _ rfl rfl b (j * 3 + 2) (.string (markT (x + 1 + 1))) rfl rfl size1_str rfl ownb2 (by have := HJ.out; omega) ?_; intro w3 own3 hg3 hs3))
        go_roundg (n - (j + 1))
        case measure => omega
        case rel =>
          have hbb := HB.out
          refine ⟨j + 1, x + 3, _, rfl, by omega, congrArg (Value.int .i64) (by unfold wrap64; omega), congrArg (Value.int .i64) (by omega), by omega, hx2, by have := HX.out; unfold Hid; omega, own3, ?_, (grownX_trans (grownX_trans (grownX_trans (grownX_trans hG hg1) hg2) (Below.grownBy' hB2)) hg3)⟩
          intro i hi q hq
          by_cases e : i = j
          · subst e
            have hxe : k + ((3 : Nat) : Int) * (i : Int) = x := by have := HX.out; omega
            rw [hxe]
            have hl1 := hown.1
            match q, hq with
            | 0, _ => simp [List.getElem?_set, instrL, markInstr]; omega
            | 1, _ => simp [List.getElem?_set, instrL, markInstr]; omega
            | 2, _ => simp [List.getElem?_set, instrL, markInstr]; omega
          · exact (((HM.out.set (j * 3) (.int .i64 (x)) (by omega)).set (j * 3 + 1) (.int .i64 (x + 1)) (by omega)).set (j * 3 + 2) (.string (markT (x + 1 + 1))) (by omega)) i (by omega) q hq
      · have hjn : j = n := by omega
        subst hjn
        have hxs := HM.out.all instrL_len hown.1
        rw [hxs] at hown
        have HO := hideT' hown
        clear hown hxs
        have HXN : Hid (x = N) := by unfold Hid; rw [HX.out, HN.out]
        go_wp2
        go_ret
        refine ⟨by rw [← HN.out, ← HXN.out]; rfl, ?_, hG⟩
        have := HO.out
        unfold OwnR
        rw [markL_len]
        exact this
set_option maxHeartbeats 2000000 in
set_option maxRecDepth 100000 in
theorem heldInstrS_in (v : Value) (n : Nat) (k : Int) (w : World) (hk0 : 0 < k) (hk1 : k + 3 * (n : Int) ≤ 1099511627776) (h : InR w v instrL 3 (markL markInstr 3 k n)) :
    Calls Tryd.prog 13 #[v, .int .i64 k] w fun e w' => e = .returned (.int .i64 (k + 3 * (n : Int))) ∧ Below w.heap.size w w' := by
  obtain ⟨o, cap, rfl, h⟩ := h
  rw [markL_len]
  rcases Nat.eq_zero_or_pos n with rfl | hn
  · have hx : k + 3 * ((0 : Nat) : Int) = k := by simp
    rw [hx]
    clear hx hk1 h
    go_enter Tryd.func13, Tryd.ntmps13
    go_wp2_with fail
    go_loopg [1, 5] 0 (fun g x i wr => x = .int .i64 k ∧ i = .int .i64 0 ∧ wr = w)
    case atStart => exact ⟨rfl, rfl, rfl⟩
    case round =>
      obtain ⟨rfl, rfl, rfl⟩ := hrel
      go_wp2
      go_ret
      exact ⟨rfl, Below.refl _ _⟩
  obtain ⟨b, rfl, hb, h1⟩ := h (by intro e; have := congrArg List.length e; rw [markL_len] at this; simp at this; omega)
  obtain ⟨N, hN⟩ : ∃ N : Int, N = k + 3 * (n : Int) := ⟨_, rfl⟩
  have HN := hideT' hN
  have HB := hideT' hk1
  have H1 := hideT' h1
  clear hN hk1 h1 h
  go_enter Tryd.func13, Tryd.ntmps13
  go_wp2_with fail
  go_loopg [1, 5] n (fun g x i wr => ∃ (j : Nat) (y : Int), g = n - j ∧ j ≤ n ∧ i = .int .i64 (j : Int) ∧ x = .int .i64 y ∧ 0 < y ∧ y ≤ 1099511627776 ∧ Hid (y = k + 3 * (j : Int)) ∧ Below w.heap.size w wr)
  case atStart => exact ⟨0, k, rfl, by omega, rfl, rfl, by omega, by have := HB.out; omega, by simp [Hid], Below.refl _ _⟩
  case round =>
    obtain ⟨j, x, hg, hj, rfl, rfl, hx0, hx1, HX, hW⟩ := hrel
    by_cases hlt : (j : Int) < (n : Int)
    · have hj' : j < n := by omega
      have hx2 : x + 3 ≤ 1099511627776 := by have := HB.out; have := HX.out; omega
      have hxe : k + ((3 : Nat) : Int) * (j : Int) = x := by have := HX.out; omega
      have hcell : ∀ q u, (instrL (markInstr x))[q]? = some u → wr.cell? ⟨b, j * 3 + q, none⟩ = some u := fun q u hu => by
        have := H1.out j q u (by rw [markL_len]; exact hj') (by rw [markL_get markInstr 3 k n j hj', hxe]; exact hu)
        exact (hW.cell (p := ⟨b, j * 3 + q, none⟩) hb).trans this
      have c0 := hcell 0 (.int .i64 (x)) rfl
      have c1 := hcell 1 (.int .i64 (x + 1)) rfl
      have c2 := hcell 2 (.string (markT (x + 1 + 1))) rfl
      rw [Nat.add_zero] at c0
      have HC := hideT' hcell
      clear hcell hxe
      go_wp2_with fail
      have hS : wr.drew.cell? ⟨b, j * 3 + 2, none⟩ = some (.string (markT (x + 1 + 1))) := c2
      refine held_begin (fun w' => w'.cell? ⟨b, j * 3 + 2, none⟩ = some (.string (markT (x + 1 + 1)))) (by kernel_rfl) ?_
      refine held_val 0 (some 30) rfl rfl (by kernel_rfl) (by kernel_rfl) (by kernel_rfl) noPanic_put rfl (.slice (some ⟨b, 0, none⟩) n cap) (fun _ => rfl) hS ?_
      simp only [Act.put, List.setIfInBounds_toArray, List.set_cons_zero, List.set_cons_succ]
      refine held_val 1 (some 31) rfl rfl (by kernel_rfl) (by kernel_rfl) (by kernel_rfl) noPanic_put rfl (.int .i64 (j : Int)) (fun _ => rfl) hS ?_
      simp only [Act.put, List.setIfInBounds_toArray, List.set_cons_zero, List.set_cons_succ]
      refine held_val 2 (some 32) rfl rfl (by kernel_rfl) (by kernel_rfl) (by kernel_rfl) noPanic_put rfl (.pointer (some ⟨b, j * 3, none⟩)) (fun _ => by go_simp) hS ?_
      simp only [Act.put, List.setIfInBounds_toArray, List.set_cons_zero, List.set_cons_succ]
      refine held_val 3 (some 33) rfl rfl (by kernel_rfl) (by kernel_rfl) (by kernel_rfl) noPanic_put rfl (.pointer (some ⟨b, j * 3 + 2, none⟩)) (fun _ => by go_simp) hS ?_
      simp only [Act.put, List.setIfInBounds_toArray, List.set_cons_zero, List.set_cons_succ]
      refine held_valS 4 (some 34) rfl rfl (by kernel_rfl) (by kernel_rfl) (by kernel_rfl) noPanic_put rfl (.string (markT (x + 1 + 1))) (fun _ hw' => run_loadS rfl rfl hw') hS ?_
      simp only [Act.put, List.setIfInBounds_toArray, List.set_cons_zero, List.set_cons_succ]
      refine held_val 5 (some 35) rfl rfl (by kernel_rfl) (by kernel_rfl) (by kernel_rfl) noPanic_put rfl (.int .i64 (x + 1 + 1)) (fun _ => rfl) hS ?_
      simp only [Act.put, List.setIfInBounds_toArray, List.set_cons_zero, List.set_cons_succ]
      refine held_call 6 (some 36) (by kernel_rfl) rfl rfl rfl 27 #[.int .i64 (x + 1 + 1)] (by go_simp) _ (markText_any (x + 1 + 1) (by omega) (by omega) wr.drew) ?_
      rintro e w2 ⟨rfl, hB2⟩
      have hB2 : Below wr.heap.size wr w2 := ⟨hB2.os, hB2.tape, hB2.output, hB2.size, hB2.block⟩
      have hW2 := hW.trans (hB2.mono hW.size)
      have hS2 : w2.cell? ⟨b, j * 3 + 2, none⟩ = some (.string (markT (x + 1 + 1))) := (hB2.cell (p := ⟨b, j * 3 + 2, none⟩) (Nat.lt_of_lt_of_le hb hW.size)).trans c2
      refine ⟨_, rfl, hS2, ?_⟩
      simp only [Act.put, List.setIfInBounds_toArray, List.set_cons_zero, List.set_cons_succ]
      refine held_val 7 (some 37) rfl rfl (by kernel_rfl) (by kernel_rfl) (by kernel_rfl) noPanic_put rfl (.bool false) (fun _ => by go_simp) hS2 ?_
      simp only [Act.put, List.setIfInBounds_toArray, List.set_cons_zero, List.set_cons_succ]
      refine wpAnyH_done (by kernel_rfl) ?_ _
      refine NoPanic.normal ?_
      go_wp2
      go_roundg (n - (j + 1))
      case measure => omega
      case rel =>
        have hbb := HB.out
        exact ⟨j + 1, x + 3, rfl, by omega, congrArg (Value.int .i64) (by unfold wrap64; omega), congrArg (Value.int .i64) (by omega), by omega, hx2, by have := HX.out; unfold Hid; omega, hW2⟩
    · have hjn : j = n := by omega
      have HXN : Hid (x = N) := by unfold Hid; rw [HX.out, HN.out, hjn]
      go_wp2
      go_ret
      exact ⟨by rw [← HN.out, ← HXN.out]; rfl, hW⟩
end Go.Proofs.YtpphkdgjojnfeaaDoor
