/-
  What spec.l1Cur.nat draws: a text of bounded length.
-/
import Derived.Test.YtmfpnbmfcoahbaaGreatDoorCur
import Derived.Test.YtmfpnbmfcoahbaaGreatDoorNumAll
import Derived.Test.YtmfpnbmfcoahbaaGreatDoorPkSpecText
namespace Go.Proofs.YtmfpnbmfcoahbaaGreatDoor
open Go.RowKit
set_option linter.unusedVariables false

theorem alloc_grown (w : World) (o : Obj) (r : Option Nat) : w.grownBy (w.alloc o) r := World.grownBy_alloc w o r
theorem below_grow {w w' : World} (h : Below w.heap.size w w') (r : Option Nat) : w.grownBy w' r := ⟨h.os, h.tape, h.output, h.size, fun k hk _ => h.block k hk⟩
theorem texts_new (w : World) (cs : List ByteArray) (m : Nat) (hm : ∀ s ∈ cs, s.size ≤ m) : Texts (w.alloc (.cells (cs.map Value.string).toArray 9)) w.heap.size cs.length m := by
  intro i hi
  refine ⟨cs[i], ?_, hm _ (List.getElem_mem hi)⟩
  rw [cell_of_row _ w.heap.size i _ _ _ (RowAt.new w 9 (cs.map Value.string).toArray)]
  simp [hi]

theorem Row.away {w : World} {B b : Nat} {v : Value} {t : List UInt8} (h : Row w B v t) (hb : b < B) : v.ownBlock ≠ some b := by
  obtain ⟨g, cap, rfl, hg, _⟩ := h
  simp [Value.ownBlock]; omega
theorem Row.own_ge {w : World} {B k : Nat} {v : Value} {t : List UInt8} (h : Row w B v t) (hk : v.ownBlock = some k) : B ≤ k := by
  obtain ⟨g, cap, rfl, hg, _⟩ := h
  simp [Value.ownBlock] at hk; omega
theorem Row.ofRow {w : World} {q : Nat} {t : List UInt8} (h : RowAt w q 5 (Lib.byteCells t).toArray) : Row w q (.slice (some ⟨q, 0, none⟩) t.length t.length) t := by
  refine ⟨q, t.length, rfl, Nat.le_refl _, RowAt.lt h, Nat.le_refl _, fun j u hu => ?_, fun j hj => ⟨?_, frozen_of_row w q _ _ _ h⟩⟩
  · rw [Nat.zero_add, cell_of_row w q j _ _ _ h]; simpa using hu
  · rw [Nat.zero_add, cell_of_row w q j _ _ _ h]; simp [Lib.byteCells, hj]
theorem flat_zero (n : Nat) : (List.replicate n (0 : Int)).flatMap u8L = Lib.byteCells (List.replicate n 0) := by
  induction n with
  | zero => rfl
  | succ n ih => rw [List.replicate_succ, List.flatMap_cons, ih, List.replicate_succ]; rfl
theorem make_bytes (n : Nat) (hn : n ≤ 1048576) (w : World) : (Instr.makeSlice 22 (.int .i64 (n : Int)) (.int .i64 (n : Int))).run Tryz.prog w = .ok (.slice (some ⟨w.heap.size, 0, none⟩) n n) (w.alloc (.cells (Lib.byteCells (List.replicate n 0)).toArray 5)) := by
  obtain ⟨i, hi, hz, hs, hb⟩ := u8_info
  have hr := run_make (P := Tryz.prog) w 22 5 i _ Tryz.underlying22 hi hz .i64 .i64 n n (by omega) (Int.le_refl _) (by rw [hb]; omega) (by omega)
  simp only [Int.toNat_natCast, hs] at hr
  have e : ((List.replicate n (0 : Int)).flatMap u8L).toArray = (Lib.byteCells (List.replicate n 0)).toArray := by rw [flat_zero]
  rw [hr, ← e, ← made_rec u8L 1 u8L_len _ (0 : Int) (by rfl) n]
  rfl
theorem bytes_set (t : List UInt8) (k : Nat) : (Lib.byteCells t).toArray.setIfInBounds k (.int .u8 57) = (Lib.byteCells (t.set k 57)).toArray := by
  apply Array.ext'
  simp [Lib.byteCells, List.map_set]
theorem size_u8d : (Tryz.prog.info? 5).map (·.size) = some 1 := by kernel_rfl

set_option maxHeartbeats 4000000 in
set_option maxRecDepth 100000 in
theorem natDraw_any (b : Nat) (v : Value) (l : List Int) (N : Nat) (w : World) (hc : CurAt w b v N) (hC : CodeAt w b v l) (hN : N + 1000 ≤ 1099511627776) :
    Calls Tryz.prog 23 #[.pointer (some ⟨b, 0, none⟩)] w fun e w' => (∃ s : ByteArray, e = .returned (.string s) ∧ s.size ≤ 1000) ∧ CurAt w' b v (N + 1000) ∧ w.grownBy w' (some b) := by
  have HC := hideT' (And.intro hc hC)
  clear hc hC
  go_enter Tryz.func23, Tryz.ntmps23
  go_wp2_with fail
  refine (pick_any 8 (by omega) (by omega) b v l N w HC.out.1 HC.out.2 (by omega)).mono ?_
  rintro e w1 ⟨⟨x, rfl, hx⟩, hc1, hg1⟩
  have HC1 := hideT' (And.intro hc1 (And.intro (HC.out.2.grown hg1) hg1))
  have hbl : b < w1.heap.size := hc1.lt
  clear hc1 hg1
  by_cases hx0 : x = 0
  · subst hx0
    go_wp2_with fail
    have HT := hideT' (texts_new w1 [⟨#[48]⟩, ⟨#[49]⟩, ⟨#[57, 57, 57, 57]⟩, ⟨#[49, 48, 48, 48, 48]⟩, ⟨#[57, 57, 57, 57, 57, 57, 57, 57]⟩, ⟨#[49, 48, 48, 48, 48, 48, 48, 48, 48]⟩] 9 (by decide))
    have hag := alloc_grown w1 (.cells #[.string ⟨#[48]⟩, .string ⟨#[49]⟩, .string ⟨#[57, 57, 57, 57]⟩, .string ⟨#[49, 48, 48, 48, 48]⟩, .string ⟨#[57, 57, 57, 57, 57, 57, 57, 57]⟩, .string ⟨#[49, 48, 48, 48, 48, 48, 48, 48, 48]⟩] 9)
    refine (of_any w1.heap.size 6 9 6 (by omega) (by omega) b v l (N + 2) _ (HC1.out.1.grown (hag none) (by simp)) (HC1.out.2.1.grown (hag (some b))) (by omega) HT.out (by omega) (by simp)).mono ?_
    rintro e w2 ⟨⟨s, rfl, hs⟩, hc2, hg2⟩
    have HC2 := hideT' (And.intro (hc2.mono (show N + 2 + 2 ≤ N + 1000 by omega)) (HC1.out.2.2.trans ((hag (some b)).trans hg2)))
    clear hc2 hg2
    go_wp2
    go_ret
    exact ⟨⟨s, rfl, by omega⟩, HC2.out.1, HC2.out.2⟩
  by_cases hx1 : x = 1
  · subst hx1
    go_wp2_with fail
    refine (pick_any 9 (by omega) (by omega) b v l (N + 2) w1 HC1.out.1 HC1.out.2.1 (by omega)).mono ?_
    rintro e w2 ⟨⟨y, rfl, hy⟩, hc2, hg2⟩
    have hbl2 : b < w2.heap.size := hc2.lt
    have hg2' := HC1.out.2.2.trans hg2
    have hws2 := hg2'.size
    obtain ⟨c, hcc⟩ : ∃ c : UInt8, (49 : Int) + (y : Int) = (c.toNat : Int) := ⟨UInt8.ofNat (49 + y), by simp [UInt8.toNat_ofNat']; omega⟩
    have hw8 : IntKind.u8.wrap ((49 : Int) + (y : Int)) = (c.toNat : Int) := by rw [IntKind.wrap_u8, hcc]; have := c.toNat_lt; omega
    have hw64 : IntKind.i64.wrap ((49 : Int) + (y : Int)) = (49 : Int) + (y : Int) := by rw [IntKind.wrap_i64]; omega
    have hag := alloc_grown w2 (.cells #[.int .u8 (c.toNat : Int)] 5)
    have HROW := hideT' (Row.ofRow (t := [c]) (RowAt.new w2 5 #[.int .u8 (c.toNat : Int)]))
    have HC2 := hideT' (And.intro (hc2.grown (hag none) (by simp)) (hg2'.trans (hag (some b))))
    clear hc2 hg2 hg2' hcc
    go_wp2_with fail
    refine (pick_any 60 (by omega) (by omega) b v l (N + 2 + 2) _ HC2.out.1 (HC.out.2.grown HC2.out.2) (by omega)).mono ?_
    rintro e w3 ⟨⟨z, rfl, hz⟩, hc3, hg3⟩
    have HC3 := hideT' (And.intro hc3 (HC2.out.2.trans hg3))
    have HROW3 := hideT' (HROW.out.kept hg3 (HROW.out.away hbl2))
    have hsz3 := hg3.size
    simp only [World.size_alloc] at hsz3
    clear hc3 hg3
    go_wp2_with fail
    go_loopg [3, 4] z (fun g s i wr => ∃ (k : Nat) (t : List UInt8), g = k ∧ k ≤ z ∧ i = .int .i64 (k : Int) ∧ Hid (t.length + k ≤ 61) ∧ Hid (Row wr w2.heap.size s t) ∧ Hid (CurAt wr b v (N + 6 + 2 * (z - k))) ∧ Hid (w.grownBy wr (some b)) ∧ w2.heap.size + 1 ≤ wr.heap.size)
    case atStart => exact ⟨z, [c], rfl, Nat.le_refl _, rfl, by unfold Hid; simp; omega, HROW3.out, HC3.out.1.mono (by omega), HC3.out.2, hsz3⟩
    case round =>
      obtain ⟨k, t, hg, hkz, rfl, HT, HRW, HCU, HGR, hwr⟩ := hrel
      by_cases hpos : (0 : Int) < (k : Int)
      · go_wp2_with fail
        refine (pick_any 10 (by omega) (by omega) b v l (N + 6 + 2 * (z - k)) wr HCU.out (HC.out.2.grown HGR.out) (by omega)).mono ?_
        rintro e w4 ⟨⟨d, rfl, hd⟩, hc4, hg4⟩
        obtain ⟨c2, hcc2⟩ : ∃ c : UInt8, (48 : Int) + (d : Int) = (c.toNat : Int) := ⟨UInt8.ofNat (48 + d), by simp [UInt8.toNat_ofNat']; omega⟩
        have hv8 : IntKind.u8.wrap ((48 : Int) + (d : Int)) = (c2.toNat : Int) := by rw [IntKind.wrap_u8, hcc2]; have := c2.toNat_lt; omega
        have hv64 : IntKind.i64.wrap ((48 : Int) + (d : Int)) = (48 : Int) + (d : Int) := by rw [IntKind.wrap_i64]; omega
        have hag4 := alloc_grown w4 (.cells #[.int .u8 (c2.toNat : Int)] 5)
        have hs4 := hg4.size
        have HR4 := hideT' ((HRW.out.kept hg4 (HRW.out.away hbl2)).kept (hag4 none) (by obtain ⟨g', c', rfl, _⟩ := HRW.out; simp [Value.ownBlock]))
        have HC4 := hideT' (And.intro (hc4.grown (hag4 none) (by simp)) (HGR.out.trans (hg4.trans (hag4 (some b)))))
        have HNEW : Hid (∀ j u, (Lib.byteCells [c2])[j]? = some u → (w4.alloc (.cells #[.int .u8 (c2.toNat : Int)] 5)).cell? ((⟨w4.heap.size, 0, none⟩ : Addr).add j) = some u) := by
          intro j u hu
          rw [Addr.add_mid, Nat.zero_add, cell_of_row _ w4.heap.size j _ _ _ (RowAt.new w4 5 #[.int .u8 (c2.toNat : Int)])]
          simpa [Lib.byteCells] using hu
        have hlen1 : t.length + [c2].length ≤ 100000 := by have := HT.out; simp; omega
        clear hc4 hg4 hcc2
        go_wp2_with (first | (at_builtin; refine append_row rfl _ _ rfl w2.heap.size _ t rfl HR4.out ⟨w4.heap.size, 0, none⟩ 1 [c2] 1 rfl rfl HNEW.out (by simp; omega) hlen1 ?_; intro v' w6 hrow6 hgr6))
        go_roundg (k - 1)
        case measure => omega
        case rel =>
          have hge : ∀ j, Value.ownBlock u3 = some j → w2.heap.size ≤ j := fun j hj => HRW.out.own_ge hj
          refine ⟨k - 1, t ++ [c2], rfl, by omega, by rw [show ((k - 1 : Nat) : Int) = (k : Int) - 1 by omega], by have := HT.out; unfold Hid; simp; omega, hrow6, (HC4.out.1.grown hgr6 (fun e => HRW.out.away hbl2 e.symm)).mono (by omega), HC4.out.2.andThen hgr6 (fun j hj => .inl (by have := hge j hj; omega)), ?_⟩
          have := hgr6.size
          simp only [World.size_alloc] at this
          omega
      · have hcv := HRW.out.conv
        have hk0 : k = 0 := by omega
        have HEND := hideT' (And.intro (HCU.out.mono (show N + 6 + 2 * (z - k) ≤ N + 1000 by omega)) HGR.out)
        go_wp2
        go_ret
        exact ⟨⟨⟨t.toArray⟩, rfl, by have := HT.out; simp [ByteArray.size]; omega⟩, HEND.out.1, HEND.out.2⟩
  by_cases hx2 : x = 2
  · subst hx2
    go_wp2_with fail
    refine (one_any 6 (by omega) (by omega) b v l (N + 2) w1 HC1.out.1 HC1.out.2.1 (by omega)).mono ?_
    rintro e w2 ⟨⟨q, rfl⟩, hc2, hg2⟩
    have HC2 := hideT' (And.intro hc2 (And.intro (HC1.out.2.1.grown hg2) (HC1.out.2.2.trans hg2)))
    have hbl2 : b < w2.heap.size := hc2.lt
    clear hc2 hg2
    cases q with
    | true =>
      go_wp2_with fail
      refine (pick_any 3 (by omega) (by omega) b v l (N + 2 + 2) w2 HC2.out.1 HC2.out.2.1 (by omega)).mono ?_
      rintro e w3 ⟨⟨y, rfl, hy⟩, hc3, hg3⟩
      have hbl3 : b < w3.heap.size := hc3.lt
      have hg3' := HC2.out.2.2.trans hg3
      have hws3 := hg3'.size
      have hw64 : IntKind.i64.wrap ((599 : Int) + (y : Int)) = ((599 + y : Nat) : Int) := by rw [IntKind.wrap_i64]; omega
      have hmk := make_bytes (599 + y) (by omega)
      obtain ⟨n, hn⟩ : ∃ n, n = 599 + y := ⟨_, rfl⟩
      rw [← hn] at hw64 hmk
      have hn2 : n ≤ 1000 := by omega
      have hag := alloc_grown w3 (.cells (Lib.byteCells (List.replicate n 0)).toArray 5)
      have HROW := hideT' (RowAt.new w3 5 (Lib.byteCells (List.replicate n 0)).toArray)
      have HC3 := hideT' (And.intro (hc3.grown (hag none) (by simp)) (hg3'.trans (hag (some b))))
      clear hc3 hg3 hg3' hn
      go_wp2_with fail
      clear hmk
      go_loopg [46] n (fun g i wr => ∃ (k : Nat) (t : List UInt8), g = n - k ∧ k ≤ n ∧ i = .int .i64 (k : Int) ∧ t.length = n ∧ Hid (RowAt wr w3.heap.size 5 (Lib.byteCells t).toArray) ∧ Hid (CurAt wr b v (N + 6)) ∧ Hid (w.grownBy wr (some b)))
      case atStart => exact ⟨0, List.replicate n 0, rfl, by omega, rfl, by simp, HROW.out, HC3.out.1, HC3.out.2⟩
      case round =>
        obtain ⟨k, t, hg, hk, rfl, hlt, HRW, HCU, HGR⟩ := hrel
        by_cases hkn : (k : Int) < (n : Int)
        · have hszt : k < (Lib.byteCells t).toArray.size := by simp [Lib.byteCells]; omega
          have HLT := hideT' hlt
          clear hlt
          go_wp2_with (refine store_at rfl 5 _ _ rfl rfl w3.heap.size k _ rfl rfl size_u8d rfl 5 _ HRW.out hszt ?_; intro w4 rw4 hg4 hs4)
          go_roundg (n - (k + 1))
          case measure => omega
          case rel =>
            refine ⟨k + 1, t.set k 57, rfl, by omega, by go_num, by rw [List.length_set]; exact HLT.out, ?_, HCU.out.grown hg4 (by simp; omega), HGR.out.andThen hg4 (fun j hj => .inl (by simp at hj; omega))⟩
            unfold Hid
            rw [← bytes_set]
            exact rw4
        · have hcv := (Row.ofRow HRW.out).conv
          rw [hlt] at hcv
          have HEND := hideT' (And.intro (HCU.out.mono (show N + 6 ≤ N + 1000 by omega)) HGR.out)
          go_wp2
          go_ret
          exact ⟨⟨⟨t.toArray⟩, rfl, by simp [ByteArray.size]; omega⟩, HEND.out.1, HEND.out.2⟩
    | false =>
      go_wp2_with fail
      have HT := hideT' (texts_new w2 [⟨#[]⟩, ⟨#[48, 49]⟩, ⟨#[120]⟩, ⟨#[45, 49]⟩] 9 (by decide))
      have hag := alloc_grown w2 (.cells #[.string ⟨#[]⟩, .string ⟨#[48, 49]⟩, .string ⟨#[120]⟩, .string ⟨#[45, 49]⟩] 9)
      refine (of_any w2.heap.size 4 9 4 (by omega) (by omega) b v l (N + 2 + 2) _ (HC2.out.1.grown (hag none) (by simp)) (HC2.out.2.1.grown (hag (some b))) (by omega) HT.out (by omega) (by simp)).mono ?_
      rintro e w3 ⟨⟨s, rfl, hs⟩, hc3, hg3⟩
      have HC3 := hideT' (And.intro (hc3.mono (show N + 2 + 2 + 2 ≤ N + 1000 by omega)) (HC2.out.2.2.trans ((hag (some b)).trans hg3)))
      clear hc3 hg3
      go_wp2
      go_ret
      exact ⟨⟨s, rfl, by omega⟩, HC3.out.1, HC3.out.2⟩
  · have hb0 : ((x : Int) == 0) = false := by simp; omega
    have hb1 : ((x : Int) == 1) = false := by simp; omega
    have hb2 : ((x : Int) == 2) = false := by simp; omega
    go_wp2_with fail
    refine (pick_any 2000 (by omega) (by omega) b v l (N + 2) w1 HC1.out.1 HC1.out.2.1 (by omega)).mono ?_
    rintro e w2 ⟨⟨y, rfl, hy⟩, hc2, hg2⟩
    have HC2 := hideT' (And.intro hc2 (HC1.out.2.2.trans hg2))
    have hsz := numB_nat_size y (by omega)
    clear hc2 hg2
    go_wp2_with fail
    refine (l1NumN_any y (by omega) w2).mono ?_
    rintro e w3 ⟨rfl, hB3⟩
    have HC3 := hideT' (And.intro ((HC2.out.1.grown (below_grow hB3 none) (by simp)).mono (show N + 2 + 2 ≤ N + 1000 by omega)) (HC2.out.2.trans (below_grow hB3 (some b))))
    clear hB3
    go_wp2
    go_ret
    exact ⟨⟨_, rfl, by omega⟩, HC3.out.1, HC3.out.2⟩
end Go.Proofs.YtmfpnbmfcoahbaaGreatDoor
