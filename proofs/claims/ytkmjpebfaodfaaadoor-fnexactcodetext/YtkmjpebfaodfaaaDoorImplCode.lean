/-
  What impl.CodeText answers: the text of code.
-/
import Derived.Test.YtkmjpebfaodfaaaDoorToldIns
import Derived.Test.YtkmjpebfaodfaaaDoorRecs2
import Derived.Test.YtkmjpebfaodfaaaDoorPkSeats
import Derived.Test.YtkmjpebfaodfaaaDoorText
import Derived.Test.YtkmjpebfaodfaaaDoorShelfCode
import Derived.Lib.AppendStr
import Derived.Lib.IndexAny
namespace Go.Proofs.YtkmjpebfaodfaaaDoor
open Go.RowKit
set_option linter.unusedVariables false

theorem conv_nilX (w : World) : (convert 62 9 (.slice none 0 0)).run Tryd.prog w = .ok (.string ⟨#[]⟩) w := by
  simp [convert, run_underlying Tryd.underlying62, run_underlying Tryd.underlying9, run_underlying Tryd.underlying5, Conv.bytesToString]
  rfl
theorem ownX_lt {w : World} {B n s : Nat} {T : TypeId} {v : Value} {xs : List Value} (h : w.ownsRow B T s v n xs) {k : Nat} (hk : v.ownBlock = some k) : k < w.heap.size := (h.lt k hk).2
theorem ownX_below {w w' : World} {B C n s : Nat} {T : TypeId} {v : Value} {xs : List Value} (h : w.ownsRow B T s v n xs) (hB : Below C w w') (hC : w.heap.size ≤ C) : w'.ownsRow B T s v n xs := by
  refine ⟨h.1, ?_⟩
  rcases h.2 with h1 | ⟨g, cap, cur, h1, h2, h3, h4⟩
  · exact .inl h1
  · have hlt : g < w.heap.size := (Array.getElem?_eq_some_iff.1 h3).1
    exact .inr ⟨g, cap, cur, h1, h2, by rw [hB.block g (by omega)]; exact h3, h4⟩
theorem ownX_ne {w : World} {B n k s : Nat} {T : TypeId} {v : Value} {xs : List Value} {t : TypeId} {cs : Array Value} (h : w.ownsRow B T s v n xs) (hR : RowAt w k t cs) (ht : t ≠ T) : some k ≠ v.ownBlock := by
  rcases h.2 with ⟨rfl, _⟩ | ⟨g, cap, cur, rfl, _, h3, _⟩
  · simp [Value.ownBlock]
  · intro e
    simp [Value.ownBlock] at e
    subst e
    have := hR.symm.trans h3
    simp at this
    exact ht this.2
theorem row_others {w w' : World} {k : Nat} {t e : TypeId} {cs : Array Value} (hR : RowAt w k t cs) (h : Lib.OthersKept e none w w') (ht : t ≠ e) : RowAt w' k t cs :=
  h k _ hR (by simp) (fun c fz he => by injection he with _ h2 _; exact ht h2)

theorem ins_cells (t : List UInt8) (a b : Int) (c : ByteArray) : Lib.byteCells t ++ Lib.byteCells (Lib.itoa a) ++ [.int .u8 32] ++ Lib.byteCells (Lib.itoa b) ++ [.int .u8 32] ++ Lib.strCells c ++ [.int .u8 10] = Lib.byteCells (t ++ insTxt (a, b, c)) := by
  simp [Lib.byteCells, Lib.strCells, insTxt]

set_option maxHeartbeats 4000000 in
set_option maxRecDepth 100000 in
theorem implCodeText_any (l : List Ins) (v : Value) (w : World) (hs : ∀ i, i < l.length → (l.getD i default).2.2.size ≤ 1048576) (hl : l.length ≤ 1048576) (hD : InR w v instrL 3 l) (hT : Tab w.heap.size w) :
    Calls Tryd.prog 15 #[v] w fun e w' => e = codeAns l ∧ Below w.heap.size w w' := by
  have HS := hideT' hs
  have HT := hideT' hT
  obtain ⟨o, cap, rfl, h⟩ := hD
  have hz := zero_instr.1
  have HTD := hideT' (areTold_any l _ w hs hl ⟨o, cap, rfl, h⟩)
  rcases Classical.em (l = []) with rfl | hne
  · have HA : Hid (codeAns [] = .returned (.tuple #[.string ⟨#[]⟩, .bool true])) := rfl
    have hcv := conv_nilX
    have hck : codeOk [] = true := rfl
    rw [hck] at HTD
    clear h hs hl hT hck
    go_enter Tryd.func15, Tryd.ntmps15
    go_wp2_with fail
    refine HTD.out.mono ?_
    rintro e w1 ⟨rfl, hB1⟩
    have hcv1 := conv_nilX w1
    go_wp2_with fail
    go_loopg [4, 12] 0 (fun g v i wr => v = .slice none 0 0 ∧ i = .int .i64 0 ∧ wr = w1)
    case atStart => exact ⟨rfl, rfl, rfl⟩
    case round =>
      obtain ⟨rfl, rfl, rfl⟩ := hrel
      go_wp2
      go_ret2
      exact ⟨by rw [HA.out]; rfl, hB1⟩
  obtain ⟨bl, rfl, hbl, hD⟩ := h hne
  have HD := hideT' hD
  clear h hne
  obtain ⟨i0, hi, hz0, hz1, hz2⟩ := info_parts info_u8
  cases hck : codeOk l with
  | false =>
    have HA : Hid (codeAns l = .returned (.tuple #[.string ⟨#[]⟩, .bool false])) := codeAns_no hck
    rw [hck] at HTD
    clear hs hD hT hck
    go_enter Tryd.func15, Tryd.ntmps15
    go_wp2_with fail
    refine HTD.out.mono ?_
    rintro e w1 ⟨rfl, hB1⟩
    go_wp2
    go_ret2
    exact ⟨by rw [HA.out]; rfl, hB1⟩
  | true =>
  have hl3 : l.length ≤ 3000 ∧ l.all insOk = true := by unfold codeOk at hck; simp only [Bool.and_eq_true, decide_eq_true_eq] at hck; exact hck
  have h3000 : ¬ (3000 : Int) < (l.length : Int) := by omega
  have HO : Hid (codeOk l = true ∧ l.all insOk = true) := ⟨hck, hl3.2⟩
  rw [hck] at HTD
  clear hs hD hT hck hl3
  go_enter Tryd.func15, Tryd.ntmps15
  go_wp2_with fail
  refine HTD.out.mono ?_
  rintro e w1 ⟨rfl, hB1⟩
  go_wp2_with fail
  go_loopg [4, 12] l.length (fun g v i wr => ∃ (k : Nat) (t : List UInt8), g = l.length - k ∧ k ≤ l.length ∧ i = .int .i64 (k : Int) ∧ wr.ownsRow w.heap.size 5 1 v t.length (Lib.byteCells t) ∧ Hid ((l.take k).all insOk = true ∧ t = codeTxt (l.take k)) ∧ Below w.heap.size w wr)
  case atStart => exact ⟨0, [], rfl, by omega, rfl, World.ownsRow_nil _ _ _ _, ⟨rfl, by simp [codeTxt]⟩, hB1⟩
  case round =>
    obtain ⟨k, t, hg, hk, rfl, hown, HL, hW⟩ := hrel
    by_cases hlt : (k : Int) < (l.length : Int)
    · have hk' : k < l.length := by omega
      obtain ⟨d, hd⟩ : ∃ d, d = l.getD k default := ⟨_, rfl⟩
      have hds := HS.out k hk'
      have hcl : ∀ j u, (instrL d)[j]? = some u → wr.cell? ⟨bl, k * 3 + j, none⟩ = some u := fun j u hu => (hW.cell (p := ⟨bl, k * 3 + j, none⟩) hbl).trans (HD.out k j u hk' (by rw [← hd]; exact hu))
      have HQ : Hid (insOk d = true) := by
        unfold Hid
        have h2 : l.getD k default = l[k] := by simp [List.getD, List.getElem?_eq_getElem hk']
        have h3 := HO.out.2
        rw [List.all_eq_true] at h3
        rw [hd, h2]
        exact h3 _ (List.getElem_mem hk')
      have HTK : Hid (codeTxt (l.take (k + 1)) = t ++ insTxt d ∧ (l.take (k + 1)).all insOk = true) := ⟨by rw [codeTxt_take hk', ← HL.out.2, hd], by rw [insAll_take hk', HL.out.1, ← hd, HQ.out]; rfl⟩
      have htl : t.length ≤ 1600 * 3000 := by
        have h2 := codeTxt_len HL.out.1
        rw [← HL.out.2, List.length_take] at h2
        omega
      have HZ := hideT' htl
      rw [← hd] at hds
      obtain ⟨a, b, c⟩ := d
      have c0 := hcl 0 (.int .i64 a) rfl
      have c1 := hcl 1 (.int .i64 b) rfl
      have c2 := hcl 2 (.string c) rfl
      rw [Nat.add_zero] at c0
      simp only at hds
      have hWs := hW.size
      have hW1 : Below w.heap.size w (wr.alloc (.cells #[.int .i64 a, .int .i64 b, .string c] 43)) := hW.alloc hWs _
      obtain ⟨w1, hw1⟩ : ∃ w1, w1 = wr.alloc (.cells #[.int .i64 a, .int .i64 b, .string c] 43) := ⟨_, rfl⟩
      have hr : RowAt w1 wr.heap.size 43 #[.int .i64 a, .int .i64 b, .string c] := by rw [hw1]; exact RowAt.new wr 43 #[.int .i64 a, .int .i64 b, .string c]
      have HR1 := hideT' hr
      have hownA := hown.alloc (.cells #[.int .i64 a, .int .i64 b, .string c] 43)
      rw [← hw1] at hownA
      have HO1 := hideT' hownA
      clear hownA
      obtain ⟨p1, p2, p3, p4, p5, p6⟩ := insOk_parts HQ.out
      simp only at p1 p2 p3 p4 p5
      have hla : (Lib.itoa a).length ≤ 6 := itoa_small (by omega) (by omega)
      have hlb : (Lib.itoa b).length ≤ 6 := itoa_small p3 p4
      rw [← hw1] at hW1
      have HT1 := hideT' (HT.out.on hW1)
      have HP : Hid ((-9223372036854775808 ≤ a ∧ a ≤ 9223372036854775807) ∧ (-9223372036854775808 ≤ b ∧ b ≤ 9223372036854775807) ∧ (Lib.itoa a).length ≤ 6 ∧ (Lib.itoa b).length ≤ 6 ∧ c.size ≤ 1500) := ⟨⟨by omega, by omega⟩, ⟨by omega, by omega⟩, hla, hlb, p5⟩
      have f0 : w1.cell? ⟨wr.heap.size, 0, none⟩ = some (.int .i64 a) := by rw [cell_of_row w1 _ _ _ _ _ hr]; rfl
      clear hd hcl htl hown p1 p2 p3 p4 p5 p6 hla hlb hr
      have hW1s := hW1.size
      go_wp2_with fail
      rw [← hw1]
      clear hw1 c0 c1 c2
      refine (Tryd.strconv_AppendInt_10 w.heap.size t.length a HP.out.1.1 HP.out.1.2 _ _ _ HO1.out hW1s (by have := HZ.out; omega) HT1.out).mono ?_
      rintro e w2 ⟨v2, rfl, hown2, hB2, hk2⟩
      have hW2 := hW1.trans hB2
      have hs2 := hB2.size
      have HR2 := hideT' (row_others HR1.out hk2 (by decide))
      clear hB2 hk2 f0 HO1 HR1
      go_wp2_with (first | (at_builtin; refine wpList_append_own _ rfl _ _ 62 rfl w.heap.size 5 i0 (.int .u8 0) 1 1 Tryd.underlying62 hi hz0 hz1 hz2 rfl (by decide) v2 _ _ rfl (hown2.alloc _) ⟨w2.heap.size, 0, none⟩ 1 1 [.int .u8 32] rfl rfl (cell_one_new _ _ _) (one_byte _) (by have := HZ.out; have := HP.out; unfold maxLen; omega) (by have := HZ.out; have := HP.out; omega) (by simp; omega) ?_; intro v3 w3 hown3 hg3 _; have HR3 := hideT' (RowAt.grown (RowAt.old HR2.out _) hg3 (ownX_ne (hown2.alloc _) (RowAt.old HR2.out (.cells #[.int .u8 32] 5)) (by decide))); have f1 : w3.cell? ⟨wr.heap.size, 1, none⟩ = some (.int .i64 b) := (by rw [cell_of_row w3 _ _ _ _ _ HR3.out]; rfl)))
      have hW3 := (hW2.alloc hW2.size (.cells #[.int .u8 32] 5)).grown hg3 (by simp; omega) (fun k hk => own_ge hown2 hk)
      have hs3 := hg3.size
      simp only [World.size_alloc] at hs3
      have HT3 := hideT' (HT.out.on hW3)
      clear hg3
      refine (Tryd.strconv_AppendInt_10 w.heap.size _ b HP.out.2.1.1 HP.out.2.1.2 _ _ _ hown3 (by omega) (by have := HZ.out; have := HP.out; omega) HT3.out).mono ?_
      rintro e w4 ⟨v4, rfl, hown4, hB4, hk4⟩
      have hW4 := hW3.trans hB4
      have hs4 := hB4.size
      have HR4 := hideT' (row_others HR3.out hk4 (by decide))
      clear hB4 hk4 f1
      go_wp2_with (first | (at_builtin; refine wpList_append_own _ rfl _ _ 62 rfl w.heap.size 5 i0 (.int .u8 0) 1 1 Tryd.underlying62 hi hz0 hz1 hz2 rfl (by decide) v4 _ _ rfl (hown4.alloc _) ⟨w4.heap.size, 0, none⟩ 1 1 [.int .u8 32] rfl rfl (cell_one_new _ _ _) (one_byte _) (by have := HZ.out; have := HP.out; unfold maxLen; omega) (by have := HZ.out; have := HP.out; omega) (by simp; omega) ?_; intro v5 w5 hown5 hg5 _; have HR5 := hideT' (RowAt.grown (RowAt.old HR4.out _) hg5 (ownX_ne (hown4.alloc _) (RowAt.old HR4.out (.cells #[.int .u8 32] 5)) (by decide))); have f2 : w5.cell? ⟨wr.heap.size, 2, none⟩ = some (.string c) := (by rw [cell_of_row w5 _ _ _ _ _ HR5.out]; rfl); have hW5 := (hW4.alloc hW4.size (.cells #[.int .u8 32] 5)).grown hg5 (by simp; omega) (fun k hk => own_ge hown4 hk); have hs5 := hg5.size; simp only [World.size_alloc] at hs5; clear hg5) | (at_builtin; refine Lib.wpList_append_own_string _ rfl _ _ 62 9 rfl w.heap.size 5 i0 Tryd.underlying62 Tryd.underlying9 hi hz0 hz1 hz2 v5 _ _ rfl hown5 c rfl (by have := HZ.out; have := HP.out; unfold maxLen; omega) (by have := HZ.out; have := HP.out; omega) (by omega) ?_; intro v6 w6 hown6 hg6 _; have hW6 := hW5.grown hg6 (by omega) (fun k hk => own_ge hown5 hk); have hs6 := hg6.size; clear hg6) | (at_builtin; refine wpList_append_own _ rfl _ _ 62 rfl w.heap.size 5 i0 (.int .u8 0) 1 1 Tryd.underlying62 hi hz0 hz1 hz2 rfl (by decide) v6 _ _ rfl (hown6.alloc _) ⟨w6.heap.size, 0, none⟩ 1 1 [.int .u8 10] rfl rfl (cell_one_new _ _ _) (one_byte _) (by have := HZ.out; have := HP.out; unfold maxLen; omega) (by have := HZ.out; have := HP.out; omega) (by simp; omega) ?_; intro v7 w7 hown7 hg7 _; have hW7 := (hW6.alloc hW6.size (.cells #[.int .u8 10] 5)).grown hg7 (by simp; omega) (fun k hk => own_ge hown6 hk); clear hg7))
      go_roundg (l.length - (k + 1))
      case measure => omega
      case rel =>
        rw [ins_cells] at hown7
        have hlen : t.length + (Lib.itoa a).length + 1 + (Lib.itoa b).length + 1 + c.size + 1 = (t ++ insTxt (a, b, c)).length := by
          have e2 : c.data.toList.length = c.size := by simp
          unfold insTxt
          simp only [List.length_append, List.length_cons, List.length_nil, e2]
          omega
        rw [hlen] at hown7
        exact ⟨k + 1, t ++ insTxt (a, b, c), rfl, by omega, by go_num, hown7, ⟨HTK.out.2, HTK.out.1.symm⟩, hW7⟩
    · have HA : Hid (codeAns l = .returned (.tuple #[.string ⟨t.toArray⟩, .bool true])) := by
        unfold Hid
        rw [codeAns_yes HO.out.1, HL.out.2, List.take_of_length_le (by omega)]
      rcases hown.2 with ⟨rfl, h0⟩ | ⟨gb, cap, cur, rfl, hgb, hcur, hnc, hcm, hcs, htake⟩
      · have ht0 : t = [] := List.length_eq_zero_iff.1 (by simpa using h0)
        subst ht0
        have hcv := conv_nilX wr
        clear hown h0
        go_wp2
        go_ret2
        exact ⟨by rw [HA.out]; rfl, hW⟩
      · have hcv := run_convert_bytes_back (P := Tryd.prog) wr 62 9 5 ⟨gb, 0, none⟩ cap t Tryd.underlying62 Tryd.underlying5 Tryd.underlying9 (fun q hq => by
          have := hown.cells (g := gb) rfl q (.int .u8 (t[q].toNat : Int)) (by simp [Lib.byteCells, List.getElem?_eq_getElem hq])
          exact this)
        clear hown hcur htake
        go_wp2
        go_ret2
        exact ⟨by rw [HA.out]; rfl, hW⟩
end Go.Proofs.YtkmjpebfaodfaaaDoor
