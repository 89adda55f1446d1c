/-
  What impl.CodeText answers: the text of code.
-/
import Derived.Test.YtpphkdgjojnfeaaDoorCodeMath
import Derived.Test.YtpphkdgjojnfeaaDoorRecs2
import Derived.Test.YtpphkdgjojnfeaaDoorPkSeats
import Derived.Test.YtpphkdgjojnfeaaDoorText
import Derived.Test.YtpphkdgjojnfeaaDoorShelfCode
import Derived.Lib.AppendStr
import Derived.Lib.IndexAny
namespace Go.Proofs.YtpphkdgjojnfeaaDoor
open Go.RowKit
set_option linter.unusedVariables false

theorem conv_nilX (w : World) : (convert 43 9 (.slice none 0 0)).run Tryd.prog w = .ok (.string ⟨#[]⟩) w := by
  simp [convert, run_underlying Tryd.underlying43, run_underlying Tryd.underlying9, run_underlying Tryd.underlying5, Conv.bytesToString]
  rfl
theorem ownX_lt {w : World} {B n s : Nat} {T : TypeId} {v : Value} {xs : List Value} (h : w.ownsRow B T s v n xs) {k : Nat} (hk : v.ownBlock = some k) : k < w.heap.size := (h.lt k hk).2
theorem ownX_below {w w' : World} {B C n s : Nat} {T : TypeId} {v : Value} {xs : List Value} (h : w.ownsRow B T s v n xs) (hB : Below C w w') (hC : w.heap.size ≤ C) : w'.ownsRow B T s v n xs := by
  refine ⟨h.1, ?_⟩
  rcases h.2 with h1 | ⟨g, cap, cur, h1, h2, h3, h4⟩
  · exact .inl h1
  · have hlt : g < w.heap.size := (Array.getElem?_eq_some_iff.1 h3).1
    exact .inr ⟨g, cap, cur, h1, h2, by rw [hB.block g (by omega)]; exact h3, h4⟩
theorem ownX_ne {w : World} {B n k s : Nat} {T : TypeId} {v : Value} {xs : List Value} {t : TypeId} {cs : Array Value} (h : w.ownsRow B T s v n xs) (hR : RowAt w k t cs) (ht : t ≠ T) : some k ≠ v.ownBlock := by
  rcases h.2 with ⟨rfl, _⟩ | ⟨g, cap, cur, rfl, _, h3, _⟩
  · simp [Value.ownBlock]
  · intro e
    simp [Value.ownBlock] at e
    subst e
    have := hR.symm.trans h3
    simp at this
    exact ht this.2
theorem row_others {w w' : World} {k : Nat} {t e : TypeId} {cs : Array Value} (hR : RowAt w k t cs) (h : Lib.OthersKept e none w w') (ht : t ≠ e) : RowAt w' k t cs :=
  h k _ hR (by simp) (fun c fz he => by injection he with _ h2 _; exact ht h2)

set_option maxHeartbeats 1000000 in
set_option maxRecDepth 100000 in
theorem isTold_any (x : Ins) (w : World) (hs : x.2.2.size ≤ 1048576) :
    Calls Tryd.prog 19 #[.agg (instrL x).toArray] w fun e w' => e = .returned (.bool (insOk x)) ∧ Below w.heap.size w w' := by
  obtain ⟨a, b, c⟩ := x
  simp only at hs
  have hB : Below w.heap.size w (w.alloc (.cells #[.int .i64 a, .int .i64 b, .string c] 37)) := (Below.refl _ _).alloc (Nat.le_refl _) _
  show Calls Tryd.prog 19 #[.agg #[.int .i64 a, .int .i64 b, .string c]] w _
  by_cases h1 : 1 ≤ a
  · by_cases h2 : a ≤ 13
    · by_cases h3 : 0 ≤ b
      · by_cases h4 : b ≤ 100000
        · by_cases h5 : (c.size : Int) ≤ 1500
          · have hcon := Lib.contains_iff_indexByte c.data.toList 10
            have HE : Hid (insOk (a, b, c) = !(c.data.toList.contains 10)) := by
              unfold Hid insOk
              simp only
              rw [decide_eq_true h1, decide_eq_true h2, decide_eq_true h3, decide_eq_true h4, decide_eq_true (show c.size ≤ 1500 by omega)]
              simp
            have HCON := hideT' hcon
            clear hcon
            go_enter Tryd.func19, Tryd.ntmps19
            go_wp2_with fail
            refine (Tryd.strings_Contains_one c 10 _).mono ?_
            rintro e w1 ⟨rfl, rfl⟩
            rw [← HCON.out]
            obtain ⟨q, hq⟩ : ∃ q, q = c.data.toList.contains 10 := ⟨_, rfl⟩
            rw [← hq]
            have HQ := hideT' hq
            clear hq
            cases q
            · go_wp2
              go_ret
              exact ⟨by rw [HE.out, ← HQ.out]; rfl, hB⟩
            · go_wp2
              go_ret
              exact ⟨by rw [HE.out, ← HQ.out]; rfl, hB⟩
          · have HE : Hid (insOk (a, b, c) = false) := by
              unfold Hid insOk
              rw [decide_eq_false (show ¬ (a, b, c).2.2.size ≤ 1500 by simp only; omega)]; simp
            go_enter Tryd.func19, Tryd.ntmps19
            go_wp2
            go_ret
            exact ⟨by rw [HE.out]; rfl, hB⟩
        · have HE : Hid (insOk (a, b, c) = false) := by
            unfold Hid insOk
            rw [decide_eq_false (show ¬ (a, b, c).2.1 ≤ 100000 from h4)]; simp
          go_enter Tryd.func19, Tryd.ntmps19
          go_wp2
          go_ret
          exact ⟨by rw [HE.out]; rfl, hB⟩
      · have HE : Hid (insOk (a, b, c) = false) := by
          unfold Hid insOk
          rw [decide_eq_false (show ¬ 0 ≤ (a, b, c).2.1 from h3)]; simp
        go_enter Tryd.func19, Tryd.ntmps19
        go_wp2
        go_ret
        exact ⟨by rw [HE.out]; rfl, hB⟩
    · have HE : Hid (insOk (a, b, c) = false) := by
        unfold Hid insOk
        rw [decide_eq_false (show ¬ (a, b, c).1 ≤ 13 from h2)]; simp
      go_enter Tryd.func19, Tryd.ntmps19
      go_wp2
      go_ret
      exact ⟨by rw [HE.out]; rfl, hB⟩
  · have HE : Hid (insOk (a, b, c) = false) := by
      unfold Hid insOk
      rw [decide_eq_false (show ¬ 1 ≤ (a, b, c).1 from h1)]; simp
    go_enter Tryd.func19, Tryd.ntmps19
    go_wp2
    go_ret
    exact ⟨by rw [HE.out]; rfl, hB⟩

theorem ins_cells (t : List UInt8) (a b : Int) (c : ByteArray) : Lib.byteCells t ++ Lib.byteCells (Lib.itoa a) ++ [.int .u8 32] ++ Lib.byteCells (Lib.itoa b) ++ [.int .u8 32] ++ Lib.strCells c ++ [.int .u8 10] = Lib.byteCells (t ++ insTxt (a, b, c)) := by
  simp [Lib.byteCells, Lib.strCells, insTxt]

set_option maxHeartbeats 4000000 in
set_option maxRecDepth 100000 in
theorem implCodeText_any (l : List Ins) (v : Value) (w : World) (hs : ∀ i, i < l.length → (l.getD i default).2.2.size ≤ 1048576) (hl : l.length ≤ 1048576) (hD : InR w v instrL 3 l) (hT : Tab w.heap.size w) :
    Calls Tryd.prog 8 #[v] w fun e w' => e = codeAns l ∧ Below w.heap.size w w' := by
  have HS := hideT' hs
  have HT := hideT' hT
  obtain ⟨o, cap, rfl, h⟩ := hD
  have hz := zero_instr.1
  rcases Classical.em (l = []) with rfl | hne
  · have HA : Hid (codeAns [] = .returned (.tuple #[.string ⟨#[]⟩, .bool true])) := rfl
    have hcv := conv_nilX
    clear h hs hl hT
    go_enter Tryd.func8, Tryd.ntmps8
    go_wp2_with fail
    go_loopg [4, 12] 0 (fun g v i wr => v = .slice none 0 0 ∧ i = .int .i64 0 ∧ wr = w)
    case atStart => exact ⟨rfl, rfl, rfl⟩
    case round =>
      obtain ⟨rfl, rfl, rfl⟩ := hrel
      go_wp2
      go_ret2
      exact ⟨by rw [HA.out]; rfl, Below.refl _ _⟩
  obtain ⟨bl, rfl, hbl, hD⟩ := h hne
  have HD := hideT' hD
  clear h hne
  obtain ⟨i0, hi, hz0, hz1, hz2⟩ := info_parts info_u8
  by_cases h3000 : (3000 : Int) < (l.length : Int)
  · have HA : Hid (codeAns l = .returned (.tuple #[.string ⟨#[]⟩, .bool false])) := codeAns_no (by unfold codeOk; rw [decide_eq_false (show ¬ l.length ≤ 3000 by omega)]; rfl)
    clear hs hD hT
    go_enter Tryd.func8, Tryd.ntmps8
    go_wp2
    go_ret2
    exact ⟨by rw [HA.out]; rfl, Below.refl _ _⟩
  have HO : Hid (codeOk l = l.all insOk) := by unfold Hid codeOk; rw [decide_eq_true (show l.length ≤ 3000 by omega)]; rfl
  clear hs hD hT
  go_enter Tryd.func8, Tryd.ntmps8
  go_wp2_with fail
  go_loopg [4, 12] l.length (fun g v i wr => ∃ (k : Nat) (t : List UInt8), g = l.length - k ∧ k ≤ l.length ∧ i = .int .i64 (k : Int) ∧ wr.ownsRow w.heap.size 5 1 v t.length (Lib.byteCells t) ∧ Hid (l.all insOk = (l.drop k).all insOk ∧ (l.take k).all insOk = true ∧ t = codeTxt (l.take k)) ∧ Below w.heap.size w wr)
  case atStart => exact ⟨0, [], rfl, by omega, rfl, World.ownsRow_nil _ _ _ _, ⟨rfl, rfl, by simp [codeTxt]⟩, Below.refl _ _⟩
  case round =>
    obtain ⟨k, t, hg, hk, rfl, hown, HL, hW⟩ := hrel
    by_cases hlt : (k : Int) < (l.length : Int)
    · have hk' : k < l.length := by omega
      obtain ⟨d, hd⟩ : ∃ d, d = l.getD k default := ⟨_, rfl⟩
      have hall := insAll_drop hk' HL.out.1
      have hds := HS.out k hk'
      have hcl : ∀ j u, (instrL d)[j]? = some u → wr.cell? ⟨bl, k * 3 + j, none⟩ = some u := fun j u hu => (hW.cell (p := ⟨bl, k * 3 + j, none⟩) hbl).trans (HD.out k j u hk' (by rw [← hd]; exact hu))
      have HTK : Hid (codeTxt (l.take (k + 1)) = t ++ insTxt d ∧ (l.take (k + 1)).all insOk = insOk d) := ⟨by rw [codeTxt_take hk', ← HL.out.2.2, hd], by rw [insAll_take hk', HL.out.2.1, hd]; rfl⟩
      have htl : t.length ≤ 1600 * 3000 := by
        have h2 := codeTxt_len HL.out.2.1
        rw [← HL.out.2.2, List.length_take] at h2
        omega
      have HZ := hideT' htl
      rw [← hd] at hall hds
      obtain ⟨a, b, c⟩ := d
      have c0 := hcl 0 (.int .i64 a) rfl
      have c1 := hcl 1 (.int .i64 b) rfl
      have c2 := hcl 2 (.string c) rfl
      rw [Nat.add_zero] at c0
      simp only at hds
      have HALL := hideT' hall
      have hWs := hW.size
      have hWn : Below w.heap.size w (wr.alloc (.cells #[.int .i64 a, .int .i64 b, .string c] 37)) := hW.alloc hWs _
      have HRN := hideT' (RowAt.new wr 37 #[.int .i64 a, .int .i64 b, .string c])
      have HC := hideT' (isTold_any (a, b, c) (wr.alloc (.cells #[.int .i64 a, .int .i64 b, .string c] 37)) hds)
      have hown0 := hown.alloc (.cells #[.int .i64 a, .int .i64 b, .string c] 37)
      have HOW := hideT' hown0
      clear hd hall hcl htl hown hown0
      go_wp2_with fail
      refine HC.out.mono ?_
      rintro e w1 ⟨rfl, hB1⟩
      have hW1 := hWn.trans (hB1.mono (by simpa using Nat.le_succ_of_le hWs))
      have hr := RowAt.below HRN.out hB1 (by simp)
      have HR1 := hideT' hr
      have HO1 := hideT' (ownX_below HOW.out hB1 (Nat.le_refl _))
      have f0 : w1.cell? ⟨wr.heap.size, 0, none⟩ = some (.int .i64 a) := by rw [cell_of_row w1 _ _ _ _ _ hr]; rfl
      obtain ⟨q, hq⟩ : ∃ q, q = insOk (a, b, c) := ⟨_, rfl⟩
      rw [← hq]
      have HQ := hideT' hq
      have hs1 := hB1.size
      simp only [World.size_alloc] at hs1
      clear hq hB1 hr c0 c1 c2 HOW
      cases q with
      | false =>
        have HA : Hid (codeAns l = .returned (.tuple #[.string ⟨#[]⟩, .bool false])) := codeAns_no (by rw [HO.out, HALL.out, ← HQ.out]; rfl)
        go_wp2
        go_ret2
        exact ⟨by rw [HA.out]; rfl, hW1⟩
      | true =>
      obtain ⟨p1, p2, p3, p4, p5, p6⟩ := insOk_parts HQ.out.symm
      simp only at p1 p2 p3 p4 p5
      have hla : (Lib.itoa a).length ≤ 6 := itoa_small (by omega) (by omega)
      have hlb : (Lib.itoa b).length ≤ 6 := itoa_small p3 p4
      have HT1 := hideT' (HT.out.on hW1)
      have HP : Hid ((-9223372036854775808 ≤ a ∧ a ≤ 9223372036854775807) ∧ (-9223372036854775808 ≤ b ∧ b ≤ 9223372036854775807) ∧ (Lib.itoa a).length ≤ 6 ∧ (Lib.itoa b).length ≤ 6 ∧ c.size ≤ 1500) := ⟨⟨by omega, by omega⟩, ⟨by omega, by omega⟩, hla, hlb, p5⟩
      clear p1 p2 p3 p4 p5 p6 hla hlb
      have hW1s := hW1.size
      go_wp2_with fail
      refine (Tryd.strconv_AppendInt_10 w.heap.size t.length a HP.out.1.1 HP.out.1.2 _ _ _ HO1.out hW1s (by have := HZ.out; omega) HT1.out).mono ?_
      rintro e w2 ⟨v2, rfl, hown2, hB2, hk2⟩
      have hW2 := hW1.trans hB2
      have hs2 := hB2.size
      have HR2 := hideT' (row_others HR1.out hk2 (by decide))
      clear hB2 hk2 f0 HO1 HR1
      go_wp2_with (first | (at_builtin; refine wpList_append_own _ rfl _ _ 43 rfl w.heap.size 5 i0 (.int .u8 0) 1 1 Tryd.underlying43 hi hz0 hz1 hz2 rfl (by decide) v2 _ _ rfl (hown2.alloc _) ⟨w2.heap.size, 0, none⟩ 1 1 [.int .u8 32] rfl rfl (cell_one_new _ _ _) (one_byte _) (by have := HZ.out; have := HP.out; unfold maxLen; omega) (by have := HZ.out; have := HP.out; omega) (by simp; omega) ?_; intro v3 w3 hown3 hg3 _; have HR3 := hideT' (RowAt.grown (RowAt.old HR2.out _) hg3 (ownX_ne (hown2.alloc _) (RowAt.old HR2.out (.cells #[.int .u8 32] 5)) (by decide))); have f1 : w3.cell? ⟨wr.heap.size, 1, none⟩ = some (.int .i64 b) := (by rw [cell_of_row w3 _ _ _ _ _ HR3.out]; rfl)))
      have hW3 := (hW2.alloc hW2.size (.cells #[.int .u8 32] 5)).grown hg3 (by simp; omega) (fun k hk => own_ge hown2 hk)
      have hs3 := hg3.size
      simp only [World.size_alloc] at hs3
      have HT3 := hideT' (HT.out.on hW3)
      clear hg3
      refine (Tryd.strconv_AppendInt_10 w.heap.size _ b HP.out.2.1.1 HP.out.2.1.2 _ _ _ hown3 (by omega) (by have := HZ.out; have := HP.out; omega) HT3.out).mono ?_
      rintro e w4 ⟨v4, rfl, hown4, hB4, hk4⟩
      have hW4 := hW3.trans hB4
      have hs4 := hB4.size
      have HR4 := hideT' (row_others HR3.out hk4 (by decide))
      clear hB4 hk4 f1
      go_wp2_with (first | (at_builtin; refine wpList_append_own _ rfl _ _ 43 rfl w.heap.size 5 i0 (.int .u8 0) 1 1 Tryd.underlying43 hi hz0 hz1 hz2 rfl (by decide) v4 _ _ rfl (hown4.alloc _) ⟨w4.heap.size, 0, none⟩ 1 1 [.int .u8 32] rfl rfl (cell_one_new _ _ _) (one_byte _) (by have := HZ.out; have := HP.out; unfold maxLen; omega) (by have := HZ.out; have := HP.out; omega) (by simp; omega) ?_; intro v5 w5 hown5 hg5 _; have HR5 := hideT' (RowAt.grown (RowAt.old HR4.out _) hg5 (ownX_ne (hown4.alloc _) (RowAt.old HR4.out (.cells #[.int .u8 32] 5)) (by decide))); have f2 : w5.cell? ⟨wr.heap.size, 2, none⟩ = some (.string c) := (by rw [cell_of_row w5 _ _ _ _ _ HR5.out]; rfl); have hW5 := (hW4.alloc hW4.size (.cells #[.int .u8 32] 5)).grown hg5 (by simp; omega) (fun k hk => own_ge hown4 hk); have hs5 := hg5.size; simp only [World.size_alloc] at hs5; clear hg5) | (at_builtin; refine Lib.wpList_append_own_string _ rfl _ _ 43 9 rfl w.heap.size 5 i0 Tryd.underlying43 Tryd.underlying9 hi hz0 hz1 hz2 v5 _ _ rfl hown5 c rfl (by have := HZ.out; have := HP.out; unfold maxLen; omega) (by have := HZ.out; have := HP.out; omega) (by omega) ?_; intro v6 w6 hown6 hg6 _; have hW6 := hW5.grown hg6 (by omega) (fun k hk => own_ge hown5 hk); have hs6 := hg6.size; clear hg6) | (at_builtin; refine wpList_append_own _ rfl _ _ 43 rfl w.heap.size 5 i0 (.int .u8 0) 1 1 Tryd.underlying43 hi hz0 hz1 hz2 rfl (by decide) v6 _ _ rfl (hown6.alloc _) ⟨w6.heap.size, 0, none⟩ 1 1 [.int .u8 10] rfl rfl (cell_one_new _ _ _) (one_byte _) (by have := HZ.out; have := HP.out; unfold maxLen; omega) (by have := HZ.out; have := HP.out; omega) (by simp; omega) ?_; intro v7 w7 hown7 hg7 _; have hW7 := (hW6.alloc hW6.size (.cells #[.int .u8 10] 5)).grown hg7 (by simp; omega) (fun k hk => own_ge hown6 hk); clear hg7))
      go_roundg (l.length - (k + 1))
      case measure => omega
      case rel =>
        rw [ins_cells] at hown7
        have hlen : t.length + (Lib.itoa a).length + 1 + (Lib.itoa b).length + 1 + c.size + 1 = (t ++ insTxt (a, b, c)).length := by
          have e2 : c.data.toList.length = c.size := by simp
          unfold insTxt
          simp only [List.length_append, List.length_cons, List.length_nil, e2]
          omega
        rw [hlen] at hown7
        refine ⟨k + 1, t ++ insTxt (a, b, c), rfl, by omega, by go_num, hown7, ⟨?_, ?_, HTK.out.1.symm⟩, hW7⟩
        · rw [HALL.out, ← HQ.out]; rfl
        · rw [HTK.out.2, ← HQ.out]
    · have hall : l.all insOk = true := by rw [HL.out.1, List.drop_eq_nil_of_le (by omega)]; rfl
      have HA : Hid (codeAns l = .returned (.tuple #[.string ⟨t.toArray⟩, .bool true])) := by
        unfold Hid
        rw [codeAns_yes (by rw [HO.out, hall]), HL.out.2.2, List.take_of_length_le (by omega)]
      clear hall
      rcases hown.2 with ⟨rfl, h0⟩ | ⟨gb, cap, cur, rfl, hgb, hcur, hnc, hcm, hcs, htake⟩
      · have ht0 : t = [] := List.length_eq_zero_iff.1 (by simpa using h0)
        subst ht0
        have hcv := conv_nilX wr
        clear hown h0
        go_wp2
        go_ret2
        exact ⟨by rw [HA.out]; rfl, hW⟩
      · have hcv := run_convert_bytes_back (P := Tryd.prog) wr 43 9 5 ⟨gb, 0, none⟩ cap t Tryd.underlying43 Tryd.underlying5 Tryd.underlying9 (fun q hq => by
          have := hown.cells (g := gb) rfl q (.int .u8 (t[q].toNat : Int)) (by simp [Lib.byteCells, List.getElem?_eq_getElem hq])
          exact this)
        clear hown hcur htake
        go_wp2
        go_ret2
        exact ⟨by rw [HA.out]; rfl, hW⟩
end Go.Proofs.YtpphkdgjojnfeaaDoor
