/-
  The texts ImplDigits, NumText, TellNum, one behind the other.
-/
import Derived.Test.YtmfpnbmfcoahbaaGreatDoorRadixText
import Derived.Test.YtmfpnbmfcoahbaaGreatDoorPkRead
import Derived.Test.YtmfpnbmfcoahbaaGreatDoorPkDivideA
import Derived.Test.YtmfpnbmfcoahbaaGreatDoorText
import Derived.Test.YtmfpnbmfcoahbaaGreatDoorPkHeld
import Derived.Lib.ConvBytes
import Derived.Test.YtmfpnbmfcoahbaaGreatDoorPkFraction

/-
  What digits of impl's nats answers.
-/
namespace Go.Proofs.YtmfpnbmfcoahbaaGreatDoor
open Go.RowKit
set_option linter.unusedVariables false

/-- The bytes l in block b, an array of 2400. -/
def TxtAt (w : World) (b : Nat) (l : List UInt8) : Prop := w.heap[b]? = some (.cells (Lib.byteCells l).toArray 88 (0, 0))

theorem TxtAt.cell {w : World} {b : Nat} {l : List UInt8} (h : TxtAt w b l) (i : Nat) (hi : i < l.length) : w.cell? ⟨b, i, none⟩ = some (.int .u8 (l[i].toNat : Int)) := by
  rw [cell_of_row w b i _ _ _ h]; simp [Lib.byteCells, List.getElem?_eq_getElem hi]
theorem TxtAt.fr {w : World} {b : Nat} {l : List UInt8} (h : TxtAt w b l) (j : Nat) : w.frozen? ⟨b, j, none⟩ = false := frozen_of_row w b j _ _ h
theorem TxtAt.set {w : World} {b : Nat} {l : List UInt8} (h : TxtAt w b l) (i : Nat) (c : UInt8) : TxtAt (w.setCell ⟨b, i, none⟩ (.int .u8 (c.toNat : Int))) b (l.set i c) := by
  unfold TxtAt; rw [heap_setCell_same w b _ _ _ _ h]; simp [Lib.byteCells, List.map_set]
theorem TxtAt.lt {w : World} {b : Nat} {l : List UInt8} (h : TxtAt w b l) : b < w.heap.size := by
  unfold TxtAt at h; exact (Array.getElem?_eq_some_iff.1 h).1
theorem TxtAt.grown {w w' : World} {b : Nat} {l : List UInt8} {r : Option Nat} (h : TxtAt w b l) (hg : w.grownBy w' r) (hr : some b ≠ r) : TxtAt w' b l := by
  unfold TxtAt; rw [hg.block b h.lt hr]; exact h
theorem TxtAt.below {w w' : World} {b B : Nat} {l : List UInt8} (h : TxtAt w b l) (hg : Below B w w') (hr : b < B) : TxtAt w' b l := by
  unfold TxtAt; rw [hg.block b hr]; exact h

theorem zero_text : Tryz.zeroCells88 = (Lib.byteCells (List.replicate 2400 0)).toArray := by kernel_rfl

theorem digs_put {b n j A : Nat} {l : List UInt8} (hl : l.length = 2400) (hA : A + 1 + j = 2400) (h : l.drop (A + 1) = (digs b n j).reverse) : (l.set A (hx (n / b ^ j % b))).drop A = (digs b n (j + 1)).reverse := by
  rw [digs_snoc, List.reverse_append, List.reverse_singleton, List.singleton_append, ← h, List.drop_eq_getElem_cons (by simp; omega)]
  congr 1
  · simp
  · rw [List.drop_set_of_lt (by omega)]

theorem und_text : Tryz.prog.underlying 88 = some (.array (Tryz.prog.arrayLen 88) (Tryz.prog.elem 88)) := by kernel_rfl
theorem len_text : Tryz.prog.arrayLen 88 = 2400 := by kernel_rfl
theorem elem_text : Tryz.prog.elem 88 = 5 := by kernel_rfl
theorem size_u8 (w : World) : (sizeOf 5).run Tryz.prog w = .ok 1 w := by
  simp [sizeOf]
  rfl

theorem add_off (b j : Nat) : (⟨b, 0, none⟩ : Addr).add j = ⟨b, j, none⟩ := by unfold Addr.add; split <;> simp_all
theorem add_at (b i j : Nat) : (⟨b, i, none⟩ : Addr).add j = ⟨b, i + j, none⟩ := by unfold Addr.add; split <;> simp_all

theorem slice_text (B A1 : Nat) (h : A1 < 2400) (W : World) : (Instr.sliceAt 88 (.pointer (some ⟨B, 0, none⟩)) (some (.int .i64 (A1 : Int))) none none).run Tryz.prog W = .ok (.slice (some ⟨B, A1, none⟩) (2400 - A1) (2400 - A1)) W := by
  rw [run_sliceAt_array_l (P := Tryz.prog) W 88 ⟨B, 0, none⟩ und_text .i64 (A1 : Int) (by omega) (by rw [len_text]; omega), elem_text, size_u8, len_text]
  simp only [Result.andThen_ok, slicedAt, Int.toNat_natCast, Nat.mul_one]
  rw [if_neg (by omega), add_off]

theorem TxtAt.conv {w : World} {b A1 : Nat} {l : List UInt8} (h : TxtAt w b l) (hl : l.length = 2400) (hA : A1 < 2400) : (convert 22 9 (.slice (some ⟨b, A1, none⟩) (2400 - A1) (2400 - A1))).run Tryz.prog w = .ok (.string ⟨(l.drop A1).toArray⟩) w := by
  have hlen : (l.drop A1).length = 2400 - A1 := by simp [hl]
  have := run_convert_bytes_back (P := Tryz.prog) w 22 9 5 ⟨b, A1, none⟩ (2400 - A1) (l.drop A1) Tryz.underlying22 Tryz.underlying5 Tryz.underlying9 (fun j hj => by
    rw [add_at, h.cell (A1 + j) (by omega)]
    simp)
  rw [hlen] at this
  exact this

set_option maxHeartbeats 1000000 in
set_option maxRecDepth 100000 in
theorem digits_more {n k : Nat} {p : List Int} (b : Nat) (r : Int) (w : World) (hP : Rep n k p) (hk : k ≤ 100) (hr : r = (b : Int)) (hr0 : 2 ≤ r) (hr1 : r ≤ 16) (hr2 : r ≠ 10) :
    Calls Tryz.prog 32 #[.agg (natC k p), .int .i64 r] w fun e w' => ∃ s : ByteArray, e = .returned (.string s) ∧ InRad b n s ∧ Below w.heap.size w w' := by
  have hz := zero_nat.1
  have hp := hP.len
  have hr3 : (r == 10) = false := by simpa using hr2
  have HP := hide hP
  have HR := hide hr
  have A : NatAt ((w.alloc (.cells (natC k p) 32)).alloc (.cells Tryz.zeroCells88 88)) w.heap.size k p := (NatAt.new w k p).old _
  have X : TxtAt ((w.alloc (.cells (natC k p) 32)).alloc (.cells Tryz.zeroCells88 88)) (w.heap.size + 1) (List.replicate 2400 0) := by
    unfold TxtAt
    rw [← zero_text]
    have := heap_alloc_new (w.alloc (.cells (natC k p) 32)) (.cells Tryz.zeroCells88 88)
    rw [World.size_alloc] at this
    exact this
  have hB : Below w.heap.size w ((w.alloc (.cells (natC k p) 32)).alloc (.cells Tryz.zeroCells88 88)) := ((Below.refl _ _).alloc (Nat.le_refl _) _).alloc (by simp) _
  have HN : Hid (n < 10 ^ 600) := hP.fits.1 hk
  have HX0 : Hid ((List.replicate 2400 (0 : UInt8)).drop 2400 = (digs b n 0).reverse) := by
    unfold Hid; rw [List.drop_of_length_le (by simp)]; simp [digs]
  have HP0 : Hid (Rep (n / b ^ 0) k p) := by unfold Hid; rw [Nat.pow_zero, Nat.div_one]; exact hP
  have hrl : (List.replicate 2400 (0 : UInt8)).length = 2400 := List.length_replicate
  generalize List.replicate 2400 (0 : UInt8) = l0 at X HX0 hrl
  clear hP hr hr2
  go_enter Tryz.func32, Tryz.ntmps32
  go_wp2
  go_loopg [6] 2400 (fun g x wr => ∃ (j kc : Nat) (pc : List Int) (l : List UInt8), Hid (g + j = 2400) ∧ g ≤ 2400 ∧ x = .int .i64 (g : Int) ∧ Hid (Rep (n / b ^ j) kc pc) ∧ Hid (∀ i, 1 ≤ i → i ≤ j → n / b ^ i ≠ 0) ∧ kc ≤ 204 ∧ pc.length = 204 ∧ Hid (l.drop g = (digs b n j).reverse) ∧ l.length = 2400 ∧ NatAt wr w.heap.size kc pc ∧ TxtAt wr (w.heap.size + 1) l ∧ Below w.heap.size w wr)
  case atStart => exact ⟨0, k, p, l0, rfl, by omega, rfl, HP0, fun i h1 h2 => by omega, by omega, hp, HX0, hrl, A, X, hB⟩
  case round =>
    obtain ⟨j, kc, pc, l, HG, hg, rfl, HC, HNZ, hkc, hpc, HL, hl, hA, hX, hW⟩ := hrel
    clear A X hB
    have hWs := hW.size
    have lX := hX.lt
    have hj : j < 2400 := by
      by_cases h0 : j = 0
      · omega
      · exact room_gen (T := 600) (K := 0) (by have := HR.out; omega) HN.out (pow_le_of_div (by have := HR.out; omega) (HNZ.out j (by omega) (Nat.le_refl _)))
    cases gk with
    | zero => have := HG.out; omega
    | succ A1 =>
      have hA1 : (A1 : Int) < 2400 := by omega
      go_wp2_with (refine load_nat rfl _ rfl w.heap.size rfl kc pc hA hpc ?_)
      refine (divideSmall_any b r wr HC.out hkc HR.out (by omega) (by omega)).mono ?_
      rintro e w1 ⟨i2, r2, x, rfl, hx, hR2, hW1⟩
      rw [div_step_pow] at hR2
      have hr2 := hR2.len
      have hi2 := hR2.le
      obtain ⟨d, hd⟩ : ∃ d, d = n / b ^ j % b := ⟨_, rfl⟩
      rw [← hd] at hx
      subst hx
      have hd16 : d < 16 := by rw [hd]; have := Nat.mod_lt (n / b ^ j) (show 0 < b by have := HR.out; omega); have := HR.out; omega
      have hd16' : (d : Int) < 16 := by omega
      have HD := hide hd
      have HR2 := hide hR2
      have hA1' := hA.below hW1 (by omega)
      have hX1 := hX.below hW1 (by omega)
      have hW1' : Below w.heap.size w w1 := hW.trans (hW1.mono (by omega))
      have hs1 := hW1.size
      have hput := digs_put (b := b) (n := n) (A := A1) (j := j) hl (by have := HG.out; omega) HL.out
      rw [← hd] at hput
      have HPUT := hide hput
      have htab := hx_table d hd16
      clear hd hR2 hA hX hW hW1 hput HL
      by_cases hi0 : i2 = 0
      · have HZ : Hid (n / b ^ (j + 1) = 0) := HR2.out.zero_iff.1 hi0
        subst hi0
        have hsl := slice_text (w.heap.size + 1) A1 (by omega)
        go_wp2_with (refine store_nat rfl _ _ rfl rfl w.heap.size _ r2 rfl rfl kc pc hA1' hpc hr2 ?_; intro w2 hN2 hg2 hs2; have hX2 := hX1.grown hg2 (by simp); have c1 := hX2.cell A1 (by omega); have hfr := hX2.fr A1; have hX3 := hX2.set A1 (hx d); have hN3 := hN2.grown (grownBy_set (r0 w2) (b := w.heap.size + 1) A1 (.int .u8 ((hx d).toNat : Int))) (by simp); have c0 := hN3.c0; have hcv := hX3.conv (A1 := A1) (by simp [hl]) (by omega))
        go_ret
        refine ⟨_, rfl, ⟨j + 1, ⟨by omega, HZ.out, fun i h1 h2 => HNZ.out i h1 (by omega)⟩, ?_⟩, ?_⟩
        · simpa using HPUT.out
        · exact (hW1'.grown hg2 (by omega) (by intro k hk; cases hk; omega)).setCell (by simp) _
      · have hi0' : ((i2 : Int) == 0) = false := by rw [beq_eq_false_iff_ne]; omega
        have HZ : Hid (n / b ^ (j + 1) ≠ 0) := fun e => hi0 (HR2.out.zero_iff.2 e)
        go_wp2_with (refine store_nat rfl _ _ rfl rfl w.heap.size i2 r2 rfl rfl kc pc hA1' hpc hr2 ?_; intro w2 hN2 hg2 hs2; have hX2 := hX1.grown hg2 (by simp); have c1 := hX2.cell A1 (by omega); have hfr := hX2.fr A1; have hX3 := hX2.set A1 (hx d); have hN3 := hN2.grown (grownBy_set (r0 w2) (b := w.heap.size + 1) A1 (.int .u8 ((hx d).toNat : Int))) (by simp); have c0 := hN3.c0)
        go_roundg A1
        case measure => omega
        case rel =>
          refine ⟨j + 1, i2, r2, l.set A1 (hx d), ?_, by omega, rfl, HR2, ?_, hi2, hr2, HPUT, by simp [hl], hN3, hX3, ?_⟩
          · have := HG.out; unfold Hid; omega
          · intro i h1 h2
            by_cases e : i = j + 1
            · rw [e]; exact HZ.out
            · exact HNZ.out i h1 (by omega)
          · exact (hW1'.grown hg2 (by omega) (by intro k hk; cases hk; omega)).setCell (by simp) _

set_option maxHeartbeats 400000 in
theorem digits_any {n k : Nat} {p : List Int} (b : Nat) (r : Int) (w : World) (hP : Rep n k p) (hk : k ≤ 100) (hr : r = (b : Int)) (hr0 : 2 ≤ r) (hr1 : r ≤ 16) (hT : Tab w.heap.size w) :
    Calls Tryz.prog 32 #[.agg (natC k p), .int .i64 r] w fun e w' => ∃ s : ByteArray, e = .returned (.string s) ∧ InRad b n s ∧ Below w.heap.size w w' := by
  by_cases h10 : r = 10
  · have hb : b = 10 := by omega
    subst hb
    subst h10
    have hp := hP.len
    have A := NatAt.new w k p
    have hB : Below w.heap.size w (w.alloc (.cells (natC k p) 32)) := (Below.refl _ _).alloc (Nat.le_refl _) _
    have HP := hide hP
    have HT : Hid (Tab (w.alloc (.cells (natC k p) 32)).heap.size (w.alloc (.cells (natC k p) 32))) := (hT.on hB).up hB.size
    clear hP hT hr
    go_enter Tryz.func32, Tryz.ntmps32
    go_wp2_with (refine load_nat rfl _ rfl w.heap.size rfl k p A hp ?_)
    refine (text_any _ HP.out HT.out).mono ?_
    rintro e w1 ⟨s, rfl, hc, hv, hW1⟩
    have HS := hide (InRad.dec hc hv)
    clear hc hv
    go_wp2
    go_ret
    exact ⟨s, rfl, HS.out, hB.trans (hW1.mono (by simp))⟩
  · exact digits_more b r w hP hk hr hr0 hr1 h10
end Go.Proofs.YtmfpnbmfcoahbaaGreatDoor

/-
  What isOne and the texts of whole numbers and fractions of impl answer.
-/
namespace Go.Proofs.YtmfpnbmfcoahbaaGreatDoor
open Go.RowKit
set_option linter.unusedVariables false

theorem InRad.size_le {b n : Nat} {s : ByteArray} (h : InRad b n s) (hb : 2 ≤ b) (hn : n < 10 ^ 600) : s.size ≤ 2400 := by
  obtain ⟨j, hj, e⟩ := h
  have hs : s.size = j := by
    have h1 : s.data.toList.length = s.size := by simp
    rw [← h1, e, List.length_reverse, digs_len]
  rw [hs]
  by_cases h1 : j = 1
  · omega
  · have h2 := hj.2.2 (j - 1) (by have := hj.1; omega) (by have := hj.1; omega)
    have := room_gen (T := 600) (K := 0) hb hn (pow_le_of_div (by omega) h2)
    omega

/-- s is the text of the whole number in the radix b. -/
def WholeR (b : Nat) (g : Bool) (n : Nat) (s : ByteArray) : Prop := ∃ t : ByteArray, InRad b n t ∧ s.data.toList = (if g then [45] else []) ++ t.data.toList
/-- s is the text of the fraction in the radix b. -/
def NumR (b : Nat) (g : Bool) (n m : Nat) (s : ByteArray) : Prop := ∃ t u : ByteArray, InRad b n t ∧ InRad b m u ∧ s.data.toList = (if g then [45] else []) ++ t.data.toList ++ (if m = 1 then [] else 47 :: u.data.toList)
theorem NumR.inj {b : Nat} {g : Bool} {n m : Nat} {s s' : ByteArray} (h : NumR b g n m s) (h' : NumR b g n m s') : s = s' := by
  obtain ⟨t, u, h1, h2, h3⟩ := h
  obtain ⟨t', u', h1', h2', h3'⟩ := h'
  obtain rfl := h1.inj h1'
  obtain rfl := h2.inj h2'
  exact Go.WideShapes.bytes_inj (by rw [h3, h3'])

set_option maxHeartbeats 400000 in
set_option maxRecDepth 100000 in
theorem wholeText_any {n k : Nat} {p : List Int} (g : Bool) (b : Nat) (r : Int) (w : World) (hP : Rep n k p) (hk : k ≤ 100) (hr : r = (b : Int)) (hr0 : 2 ≤ r) (hr1 : r ≤ 16) (hT : Tab w.heap.size w) :
    Calls Tryz.prog 14 #[.agg (wholeC g k p), .int .i64 r] w fun e w' => ∃ s : ByteArray, e = .returned (.string s) ∧ WholeR b g n s ∧ Below w.heap.size w w' := by
  have hz := zero_nat.1
  have hz1 := zero_whole.1
  have hp := hP.len
  have A := WholeAt.new w g k p
  have hB : Below w.heap.size w (w.alloc (.cells (wholeC g k p) 36)) := (Below.refl _ _).alloc (Nat.le_refl _) _
  have a0 := A.neg
  have HT : Hid (Tab (w.alloc (.cells (wholeC g k p) 36)).heap.size (w.alloc (.cells (wholeC g k p) 36))) := (hT.on hB).up hB.size
  have HP := hide hP
  have HR := hide hr
  clear hP hT hr
  cases g with
  | true =>
    go_enter Tryz.func14, Tryz.ntmps14
    go_wp2_with (refine load_mid_nat rfl _ rfl w.heap.size 1 rfl k p A.size hp ?_)
    refine (digits_any b r _ HP.out hk HR.out hr0 hr1 HT.out).mono ?_
    rintro e w1 ⟨t, rfl, hI, hW1⟩
    have HI := hide hI
    have hts := hI.size_le (by have := HR.out; omega) (HP.out.fits.1 hk)
    clear hI
    go_wp2
    go_ret
    refine ⟨_, rfl, ⟨t, HI.out, ?_⟩, hB.trans (hW1.mono (by simp))⟩
    simp [ByteArray.data_append]
  | false =>
    go_enter Tryz.func14, Tryz.ntmps14
    go_wp2_with (refine load_mid_nat rfl _ rfl w.heap.size 1 rfl k p A.size hp ?_)
    refine (digits_any b r _ HP.out hk HR.out hr0 hr1 HT.out).mono ?_
    rintro e w1 ⟨t, rfl, hI, hW1⟩
    have HI := hide hI
    clear hI
    go_wp2
    go_ret
    exact ⟨_, rfl, ⟨t, HI.out, by simp⟩, hB.trans (hW1.mono (by simp))⟩

set_option maxHeartbeats 1000000 in
set_option maxRecDepth 100000 in
theorem numText_any {n m k j : Nat} {p q : List Int} (g : Bool) (b : Nat) (r : Int) (w : World) (hP : Rep n k p) (hQ : Rep m j q) (hk : k ≤ 100) (hj : j ≤ 100) (hr : r = (b : Int)) (hr0 : 2 ≤ r) (hr1 : r ≤ 16) (hT : Tab w.heap.size w) :
    Calls Tryz.prog 45 #[.agg (numC g k p j q), .int .i64 r] w fun e w' => ∃ s : ByteArray, e = .returned (.string s) ∧ NumR b g n m s ∧ Below w.heap.size w w' := by
  have hz := zero_nat.1
  have hz1 := zero_whole.1
  have hp := hP.len
  have hq := hQ.len
  have A := NumAt.new w g k p j q
  have hB : Below w.heap.size w (w.alloc (.cells (numC g k p j q) 48)) := (Below.refl _ _).alloc (Nat.le_refl _) _
  have HT := hide hT
  have HP := hide hP
  have HQ := hide hQ
  have HR := hide hr
  clear hP hQ hT hr
  go_enter Tryz.func45, Tryz.ntmps45
  go_wp2_with (refine load_num rfl _ rfl w.heap.size rfl g k p j q A hp hq ?_)
  refine (isWhole_any (n := n) g _ hp HQ.out).mono ?_
  rintro e w1 ⟨rfl, hW1⟩
  have A1 : NumAt w1 w.heap.size g k p j q := A.below hW1 (by simp)
  have hB1 : Below w.heap.size w w1 := hB.trans (hW1.mono (by simp))
  have HT1 : Hid (Tab w1.heap.size w1) := (HT.out.on hB1).up hB1.size
  have hs1 := hW1.size
  simp only [World.size_alloc] at hs1
  clear A hB hW1
  by_cases hm : m = 1
  · rw [decide_eq_true hm]
    go_wp2_with (refine load_mid_whole rfl _ rfl w.heap.size 0 rfl g k p A1.whole hp ?_)
    refine (wholeText_any g b r w1 HP.out hk HR.out hr0 hr1 HT1.out).mono ?_
    rintro e w2 ⟨s, rfl, ⟨t, ht, hs⟩, hW2⟩
    have HS : Hid (NumR b g n m s) := by
      obtain ⟨u, hu⟩ : ∃ u : ByteArray, InRad b m u := by
        rw [hm]
        refine ⟨⟨(digs b 1 1).reverse.toArray⟩, 1, ⟨by omega, ?_, fun i h1 h2 => by omega⟩, by simp⟩
        rw [Nat.pow_one]; exact Nat.div_eq_of_lt (by have := HR.out; omega)
      exact ⟨t, u, ht, hu, by rw [hs, if_pos hm, List.append_nil]⟩
    clear ht hs
    go_wp2
    go_ret
    exact ⟨s, rfl, HS.out, hB1.trans (hW2.mono (by omega))⟩
  · rw [decide_eq_false hm]
    go_wp2_with fail
    refine held_begin (fun w' => NumAt w' w.heap.size g k p j q) (by kernel_rfl) ?_
    have hS : NumAt w1.drew w.heap.size g k p j q := A1
    refine held_valS 0 (some 11) rfl rfl (by kernel_rfl) (by kernel_rfl) (by kernel_rfl) noPanic_put rfl (.pointer (some ⟨w.heap.size, 0, none⟩)) (fun _ _ => by go_simp) hS ?_
    simp only [Act.put, List.setIfInBounds_toArray, List.set_cons_zero, List.set_cons_succ]
    refine held_valS 1 (some 12) rfl rfl (by kernel_rfl) (by kernel_rfl) (by kernel_rfl) noPanic_put rfl (.agg (wholeC g k p)) (fun _ h => run_mid_whole _ rfl w.heap.size 0 rfl g k p h.whole hp) hS ?_
    simp only [Act.put, List.setIfInBounds_toArray, List.set_cons_zero, List.set_cons_succ]
    refine held_valS 2 (some 13) rfl rfl (by kernel_rfl) (by kernel_rfl) (by kernel_rfl) noPanic_put rfl (.int .i64 r) (fun _ _ => rfl) hS ?_
    simp only [Act.put, List.setIfInBounds_toArray, List.set_cons_zero, List.set_cons_succ]
    refine held_valS 5 (some 16) rfl rfl (by kernel_rfl) (by kernel_rfl) (by kernel_rfl) noPanic_put rfl (.pointer (some ⟨w.heap.size, 206, none⟩)) (fun _ _ => by go_simp) hS ?_
    simp only [Act.put, List.setIfInBounds_toArray, List.set_cons_zero, List.set_cons_succ]
    refine held_valS 6 (some 17) rfl rfl (by kernel_rfl) (by kernel_rfl) (by kernel_rfl) noPanic_put rfl (.agg (natC j q)) (fun _ h => run_mid_nat _ rfl w.heap.size 206 rfl j q (h.bottom hp) hq) hS ?_
    simp only [Act.put, List.setIfInBounds_toArray, List.set_cons_zero, List.set_cons_succ]
    refine held_valS 7 (some 18) rfl rfl (by kernel_rfl) (by kernel_rfl) (by kernel_rfl) noPanic_put rfl (.int .i64 r) (fun _ _ => rfl) hS ?_
    simp only [Act.put, List.setIfInBounds_toArray, List.set_cons_zero, List.set_cons_succ]
    have HT1' : Hid (Tab w1.drew.heap.size w1.drew) := (HT.out.on hB1.drew).up hB1.drew.size
    refine held_call 3 (some 14) (by kernel_rfl) rfl rfl rfl 14 #[.agg (wholeC g k p), .int .i64 r] (by go_simp) _ (wholeText_any g b r w1.drew HP.out hk HR.out hr0 hr1 HT1'.out) ?_
    rintro e w2 ⟨s, rfl, ⟨t, ht, hs⟩, hW2⟩
    have hW2 : Below w1.heap.size w1 w2 := ⟨hW2.os, hW2.tape, hW2.output, hW2.size, hW2.block⟩
    have hts := ht.size_le (by have := HR.out; omega) (HP.out.fits.1 hk)
    have hss : s.size ≤ 2401 := by
      have h1 : s.data.toList.length = s.size := by simp
      have h2 : t.data.toList.length = t.size := by simp
      rw [← h1, hs, List.length_append, h2]
      cases g <;> simp <;> omega
    have HS := hide (And.intro ht hs)
    clear ht hs
    have A2 : NumAt w2 w.heap.size g k p j q := A1.below hW2 (by omega)
    have hB2 : Below w.heap.size w w2 := hB1.trans (hW2.mono (by omega))
    have HT2 : Hid (Tab w2.heap.size w2) := (HT.out.on hB2).up hB2.size
    refine ⟨_, rfl, A2, ?_⟩
    simp only [Act.put, List.setIfInBounds_toArray, List.set_cons_zero, List.set_cons_succ]
    refine held_valS 4 (some 15) rfl rfl (by kernel_rfl) (by kernel_rfl) (by kernel_rfl) noPanic_put rfl (.string (s ++ ⟨#[47]⟩)) (fun _ _ => by go_simp; omega) A2 ?_
    simp only [Act.put, List.setIfInBounds_toArray, List.set_cons_zero, List.set_cons_succ]
    refine held_call 8 (some 19) (by kernel_rfl) rfl rfl rfl 32 #[.agg (natC j q), .int .i64 r] (by go_simp) _ (digits_any b r w2 HQ.out hj HR.out hr0 hr1 HT2.out) ?_
    rintro e w3 ⟨u, rfl, hu, hW3⟩
    have hus := hu.size_le (by have := HR.out; omega) (HQ.out.fits.1 hj)
    have A3 : NumAt w3 w.heap.size g k p j q := A2.below hW3 (by have := hW2.size; omega)
    have hB3 : Below w.heap.size w w3 := hB2.trans (hW3.mono hB2.size)
    refine ⟨_, rfl, A3, ?_⟩
    simp only [Act.put, List.setIfInBounds_toArray, List.set_cons_zero, List.set_cons_succ]
    have hsz : (s ++ (⟨#[47]⟩ : ByteArray)).size ≤ 2402 := by rw [ByteArray.size_append]; have : (⟨#[47]⟩ : ByteArray).size = 1 := rfl; omega
    refine held_valS 9 (some 20) rfl rfl (by kernel_rfl) (by kernel_rfl) (by kernel_rfl) noPanic_put rfl (.string (s ++ ⟨#[47]⟩ ++ u)) (fun _ _ => by go_simp; omega) A3 ?_
    simp only [Act.put, List.setIfInBounds_toArray, List.set_cons_zero, List.set_cons_succ]
    refine held_assign 10 (some 4) (by kernel_rfl) rfl rfl _ rfl rfl (.string (s ++ ⟨#[47]⟩ ++ u)) rfl A3 ?_
    simp only [Act.put, List.setIfInBounds_toArray, List.set_cons_zero, List.set_cons_succ]
    refine wpAnyH_done (by kernel_rfl) ?_ _
    refine NoPanic.normal ?_
    have HU := hide hu
    go_wp2
    go_ret
    refine ⟨_, rfl, ⟨t, u, HS.out.1, HU.out, ?_⟩, hB3⟩
    rw [if_neg hm, ByteArray.data_append, ByteArray.data_append, Array.toList_append, Array.toList_append, HS.out.2]
    simp

end Go.Proofs.YtmfpnbmfcoahbaaGreatDoor

/-
  What tellNum of impl answers.
-/
namespace Go.Proofs.YtmfpnbmfcoahbaaGreatDoor
open Go.RowKit
set_option linter.unusedVariables false

/-- It tells the fraction, where top and bottom are not too long. -/
def TellsN (g : Bool) (n m : Nat) (e : Ending) : Prop := ∃ s : ByteArray, e = .returned (.tuple #[.string s, .bool (decide (n < 10 ^ 600) && decide (m < 10 ^ 600))]) ∧ ((decide (n < 10 ^ 600) && decide (m < 10 ^ 600)) = true → NumR 10 g n m s) ∧ ((decide (n < 10 ^ 600) && decide (m < 10 ^ 600)) = false → s = ⟨#[]⟩)
theorem TellsN.same {g : Bool} {n m : Nat} {e e' : Ending} (h : TellsN g n m e) (h' : TellsN g n m e') : ∃ (s : ByteArray) (o : Bool), e = .returned (.tuple #[.string s, .bool o]) ∧ e' = .returned (.tuple #[.string s, .bool o]) := by
  obtain ⟨s, rfl, h1, h2⟩ := h
  obtain ⟨s', rfl, h1', h2'⟩ := h'
  have : s = s' := by
    cases hb : (decide (n < 10 ^ 600) && decide (m < 10 ^ 600)) with
    | true => exact (h1 hb).inj (h1' hb)
    | false => rw [h2 hb, h2' hb]
  subst this
  exact ⟨s, _, rfl, rfl⟩
theorem TellsN.yes {g : Bool} {n m : Nat} {s : ByteArray} (hn : n < 10 ^ 600) (hm : m < 10 ^ 600) (h : NumR 10 g n m s) : TellsN g n m (.returned (.tuple #[.string s, .bool true])) := by
  refine ⟨s, ?_, fun _ => h, fun hb => ?_⟩
  · rw [decide_eq_true hn, decide_eq_true hm]; rfl
  · rw [decide_eq_true hn, decide_eq_true hm] at hb; cases hb
theorem TellsN.no {g : Bool} {n m : Nat} (h : ¬ n < 10 ^ 600 ∨ ¬ m < 10 ^ 600) : TellsN g n m (.returned (.tuple #[.string ⟨#[]⟩, .bool false])) := by
  have hb : (decide (n < 10 ^ 600) && decide (m < 10 ^ 600)) = false := by
    rcases h with h | h
    · rw [decide_eq_false h]; rfl
    · rw [decide_eq_false h, Bool.and_false]
  refine ⟨⟨#[]⟩, by rw [hb], ?_, fun _ => rfl⟩
  intro h; rw [hb] at h; cases h

set_option maxHeartbeats 1000000 in
set_option maxRecDepth 100000 in
theorem numFits_any (g : Bool) (k j : Nat) (p q : List Int) (w : World) (hp : p.length = 204) (hq : q.length = 204) :
    Calls Tryz.prog 44 #[.agg (numC g k p j q)] w fun e w' => e = .returned (.bool (decide (k ≤ 100) && decide (j ≤ 100))) ∧ Below w.heap.size w w' := by
  have A := NumAt.new w g k p j q
  have hB : Below w.heap.size w (w.alloc (.cells (numC g k p j q) 48)) := (Below.refl _ _).alloc (Nat.le_refl _) _
  go_enter Tryz.func44, Tryz.ntmps44
  go_wp2_with (refine load_mid_nat rfl _ rfl w.heap.size 1 rfl k p A.size hp ?_)
  refine (fits_any k p _).mono ?_
  rintro e w1 ⟨rfl, hW1⟩
  have A1 : NumAt w1 w.heap.size g k p j q := A.below hW1 (by simp)
  have hB1 : Below w.heap.size w w1 := hB.trans (hW1.mono (by simp))
  have hs1 := hW1.size
  simp only [World.size_alloc] at hs1
  clear A hB hW1
  by_cases hk : k ≤ 100
  · rw [decide_eq_true hk]
    go_wp2_with fail
    refine wp_mid_nat _ rfl w.heap.size 206 rfl j q (A1.bottom hp) hq ?_
    go_wp2_with fail
    refine (fits_any j q _).mono ?_
    rintro e w2 ⟨rfl, hW2⟩
    have hB2 : Below w.heap.size w w2 := hB1.trans (hW2.mono (by omega))
    clear A1 hB1 hW2
    cases hd : decide (j ≤ 100) with
    | true =>
      have HD := hide hd
      clear hd
      go_wp2
      go_ret
      exact ⟨by rw [decide_eq_true hk, HD.out]; rfl, hB2⟩
    | false =>
      have HD := hide hd
      clear hd
      go_wp2
      go_ret
      exact ⟨by rw [decide_eq_true hk, HD.out]; rfl, hB2⟩
  · rw [decide_eq_false hk]
    go_wp2
    go_ret
    exact ⟨by rw [decide_eq_false hk]; rfl, hB1⟩

set_option maxHeartbeats 1000000 in
set_option maxRecDepth 100000 in
theorem tellNum_any {n m k j : Nat} {p q : List Int} (g : Bool) (w : World) (hP : Rep n k p) (hQ : Rep m j q) (hT : Tab w.heap.size w) :
    Calls Tryz.prog 20 #[.agg (numC g k p j q)] w fun e w' => TellsN g n m e ∧ Below w.heap.size w w' := by
  have hz := zero_nat.1
  have hz1 := zero_whole.1
  have hp := hP.len
  have hq := hQ.len
  have A := NumAt.new w g k p j q
  have hB : Below w.heap.size w (w.alloc (.cells (numC g k p j q) 48)) := (Below.refl _ _).alloc (Nat.le_refl _) _
  have HT := hide hT
  have HP := hide hP
  have HQ := hide hQ
  clear hP hQ hT
  go_enter Tryz.func20, Tryz.ntmps20
  go_wp2_with (refine load_num rfl _ rfl w.heap.size rfl g k p j q A hp hq ?_)
  refine (numFits_any g k j p q _ hp hq).mono ?_
  rintro e w2 ⟨rfl, hW1⟩
  have A2 : NumAt w2 w.heap.size g k p j q := A.below hW1 (by simp)
  have hB2 : Below w.heap.size w w2 := hB.trans (hW1.mono (by simp))
  have HT2 : Hid (Tab w2.heap.size w2) := (HT.out.on hB2).up hB2.size
  clear A hB hW1
  by_cases hk : k ≤ 100
  · by_cases hj : j ≤ 100
    · rw [decide_eq_true hj, decide_eq_true hk]
      go_wp2_with (refine load_num rfl _ rfl w.heap.size rfl g k p j q A2 hp hq ?_)
      refine (numText_any g 10 10 w2 HP.out HQ.out hk hj rfl (by omega) (by omega) HT2.out).mono ?_
      rintro e w3 ⟨s, rfl, hN, hW3⟩
      have HN := hide (TellsN.yes (HP.out.fits.1 hk) (HQ.out.fits.1 hj) hN)
      clear hN
      go_wp2
      go_ret2
      exact ⟨HN.out, hB2.trans (hW3.mono hB2.size)⟩
    · rw [decide_eq_false hj, Bool.and_false]
      have HN := hide (TellsN.no (g := g) (n := n) (m := m) (.inr (fun h => hj (HQ.out.fits.2 h))))
      go_wp2
      go_ret2
      exact ⟨HN.out, hB2⟩
  · rw [decide_eq_false hk, Bool.false_and]
    have HN := hide (TellsN.no (g := g) (n := n) (m := m) (.inl (fun h => hk (HP.out.fits.2 h))))
    go_wp2
    go_ret2
    exact ⟨HN.out, hB2⟩
end Go.Proofs.YtmfpnbmfcoahbaaGreatDoor
