/-
  The texts ImplDigits, NumText, TellNum, one behind the other.
-/
import Derived.Test.YthbnacikomimfaaDoorRadixText
import Derived.Test.YthbnacikomimfaaDoorPkRead
import Derived.Test.YthbnacikomimfaaDoorPkDivideA
import Derived.Test.YthbnacikomimfaaDoorText
import Derived.Test.YthbnacikomimfaaDoorPkHeld
import Derived.Lib.ConvBytes
import Derived.Test.YthbnacikomimfaaDoorPkFraction

/-
  What digits of impl's nats answers.
-/
namespace Go.Proofs.YthbnacikomimfaaDoor
open Go.RowKit
set_option linter.unusedVariables false

/-- The bytes l in block b, an array of 2400. -/
def TxtAt (w : World) (b : Nat) (l : List UInt8) : Prop := w.heap[b]? = some (.cells (Lib.byteCells l).toArray 115 (0, 0))

theorem TxtAt.cell {w : World} {b : Nat} {l : List UInt8} (h : TxtAt w b l) (i : Nat) (hi : i < l.length) : w.cell? ⟨b, i, none⟩ = some (.int .u8 (l[i].toNat : Int)) := by
  rw [cell_of_row w b i _ _ _ h]; simp [Lib.byteCells, List.getElem?_eq_getElem hi]
theorem TxtAt.fr {w : World} {b : Nat} {l : List UInt8} (h : TxtAt w b l) (j : Nat) : w.frozen? ⟨b, j, none⟩ = false := frozen_of_row w b j _ _ h
theorem TxtAt.set {w : World} {b : Nat} {l : List UInt8} (h : TxtAt w b l) (i : Nat) (c : UInt8) : TxtAt (w.setCell ⟨b, i, none⟩ (.int .u8 (c.toNat : Int))) b (l.set i c) := by
  unfold TxtAt; rw [heap_setCell_same w b _ _ _ _ h]; simp [Lib.byteCells, List.map_set]
theorem TxtAt.lt {w : World} {b : Nat} {l : List UInt8} (h : TxtAt w b l) : b < w.heap.size := by
  unfold TxtAt at h; exact (Array.getElem?_eq_some_iff.1 h).1
theorem TxtAt.grown {w w' : World} {b : Nat} {l : List UInt8} {r : Option Nat} (h : TxtAt w b l) (hg : w.grownBy w' r) (hr : some b ≠ r) : TxtAt w' b l := by
  unfold TxtAt; rw [hg.block b h.lt hr]; exact h
theorem TxtAt.below {w w' : World} {b B : Nat} {l : List UInt8} (h : TxtAt w b l) (hg : Below B w w') (hr : b < B) : TxtAt w' b l := by
  unfold TxtAt; rw [hg.block b hr]; exact h

theorem zero_text : Tryd.zeroCells115 = (Lib.byteCells (List.replicate 2400 0)).toArray := by kernel_rfl

theorem digs_put {b n j A : Nat} {l : List UInt8} (hl : l.length = 2400) (hA : A + 1 + j = 2400) (h : l.drop (A + 1) = (digs b n j).reverse) : (l.set A (hx (n / b ^ j % b))).drop A = (digs b n (j + 1)).reverse := by
  rw [digs_snoc, List.reverse_append, List.reverse_singleton, List.singleton_append, ← h, List.drop_eq_getElem_cons (by simp; omega)]
  congr 1
  · simp
  · rw [List.drop_set_of_lt (by omega)]

theorem und_text : Tryd.prog.underlying 115 = some (.array (Tryd.prog.arrayLen 115) (Tryd.prog.elem 115)) := by kernel_rfl
theorem len_text : Tryd.prog.arrayLen 115 = 2400 := by kernel_rfl
theorem elem_text : Tryd.prog.elem 115 = 5 := by kernel_rfl
theorem size_u8 (w : World) : (sizeOf 5).run Tryd.prog w = .ok 1 w := by
  simp [sizeOf]
  rfl

theorem add_off (b j : Nat) : (⟨b, 0, none⟩ : Addr).add j = ⟨b, j, none⟩ := by unfold Addr.add; split <;> simp_all
theorem add_at (b i j : Nat) : (⟨b, i, none⟩ : Addr).add j = ⟨b, i + j, none⟩ := by unfold Addr.add; split <;> simp_all

theorem slice_text (B A1 : Nat) (h : A1 < 2400) (W : World) : (Instr.sliceAt 115 (.pointer (some ⟨B, 0, none⟩)) (some (.int .i64 (A1 : Int))) none none).run Tryd.prog W = .ok (.slice (some ⟨B, A1, none⟩) (2400 - A1) (2400 - A1)) W := by
  rw [run_sliceAt_array_l (P := Tryd.prog) W 115 ⟨B, 0, none⟩ und_text .i64 (A1 : Int) (by omega) (by rw [len_text]; omega), elem_text, size_u8, len_text]
  simp only [Result.andThen_ok, slicedAt, Int.toNat_natCast, Nat.mul_one]
  rw [if_neg (by omega), add_off]

theorem TxtAt.conv {w : World} {b A1 : Nat} {l : List UInt8} (h : TxtAt w b l) (hl : l.length = 2400) (hA : A1 < 2400) : (convert 90 9 (.slice (some ⟨b, A1, none⟩) (2400 - A1) (2400 - A1))).run Tryd.prog w = .ok (.string ⟨(l.drop A1).toArray⟩) w := by
  have hlen : (l.drop A1).length = 2400 - A1 := by simp [hl]
  have := run_convert_bytes_back (P := Tryd.prog) w 90 9 5 ⟨b, A1, none⟩ (2400 - A1) (l.drop A1) Tryd.underlying90 Tryd.underlying5 Tryd.underlying9 (fun j hj => by
    rw [add_at, h.cell (A1 + j) (by omega)]
    simp)
  rw [hlen] at this
  exact this

set_option maxHeartbeats 1000000 in
set_option maxRecDepth 100000 in
theorem digits_more {n k : Nat} {p : List Int} (b : Nat) (r : Int) (w : World) (hP : Rep n k p) (hk : k ≤ 100) (hr : r = (b : Int)) (hr0 : 2 ≤ r) (hr1 : r ≤ 16) (hr2 : r ≠ 10) :
    Calls Tryd.prog 79 #[.agg (natC k p), .int .i64 r] w fun e w' => ∃ s : ByteArray, e = .returned (.string s) ∧ InRad b n s ∧ Below w.heap.size w w' := by
  have hz := zero_nat.1
  have hp := hP.len
  have hr3 : (r == 10) = false := by simpa using hr2
  have HP := hide hP
  have HR := hide hr
  have A : NatAt ((w.alloc (.cells (natC k p) 40)).alloc (.cells Tryd.zeroCells115 115)) w.heap.size k p := (NatAt.new w k p).old _
  have X : TxtAt ((w.alloc (.cells (natC k p) 40)).alloc (.cells Tryd.zeroCells115 115)) (w.heap.size + 1) (List.replicate 2400 0) := by
    unfold TxtAt
    rw [← zero_text]
    have := heap_alloc_new (w.alloc (.cells (natC k p) 40)) (.cells Tryd.zeroCells115 115)
    rw [World.size_alloc] at this
    exact this
  have hB : Below w.heap.size w ((w.alloc (.cells (natC k p) 40)).alloc (.cells Tryd.zeroCells115 115)) := ((Below.refl _ _).alloc (Nat.le_refl _) _).alloc (by simp) _
  have HN : Hid (n < 10 ^ 600) := hP.fits.1 hk
  have HX0 : Hid ((List.replicate 2400 (0 : UInt8)).drop 2400 = (digs b n 0).reverse) := by
    unfold Hid; rw [List.drop_of_length_le (by simp)]; simp [digs]
  have HP0 : Hid (Rep (n / b ^ 0) k p) := by unfold Hid; rw [Nat.pow_zero, Nat.div_one]; exact hP
  have hrl : (List.replicate 2400 (0 : UInt8)).length = 2400 := List.length_replicate
  generalize List.replicate 2400 (0 : UInt8) = l0 at X HX0 hrl
  clear hP hr hr2
  go_enter Tryd.func79, Tryd.ntmps79
  go_wp2
  go_loopg [6] 2400 (fun g x wr => ∃ (j kc : Nat) (pc : List Int) (l : List UInt8), Hid (g + j = 2400) ∧ g ≤ 2400 ∧ x = .int .i64 (g : Int) ∧ Hid (Rep (n / b ^ j) kc pc) ∧ Hid (∀ i, 1 ≤ i → i ≤ j → n / b ^ i ≠ 0) ∧ kc ≤ 204 ∧ pc.length = 204 ∧ Hid (l.drop g = (digs b n j).reverse) ∧ l.length = 2400 ∧ NatAt wr w.heap.size kc pc ∧ TxtAt wr (w.heap.size + 1) l ∧ Below w.heap.size w wr)
  case atStart => exact ⟨0, k, p, l0, rfl, by omega, rfl, HP0, fun i h1 h2 => by omega, by omega, hp, HX0, hrl, A, X, hB⟩
  case round =>
    obtain ⟨j, kc, pc, l, HG, hg, rfl, HC, HNZ, hkc, hpc, HL, hl, hA, hX, hW⟩ := hrel
    clear A X hB
    have hWs := hW.size
    have lX := hX.lt
    have hj : j < 2400 := by
      by_cases h0 : j = 0
      · omega
      · exact room_gen (T := 600) (K := 0) (by have := HR.out; omega) HN.out (pow_le_of_div (by have := HR.out; omega) (HNZ.out j (by omega) (Nat.le_refl _)))
    cases gk with
    | zero => have := HG.out; omega
    | succ A1 =>
      have hA1 : (A1 : Int) < 2400 := by omega
      go_wp2_with (refine load_nat rfl _ rfl w.heap.size rfl kc pc hA hpc ?_)
      refine (divideSmall_any b r wr HC.out hkc HR.out (by omega) (by omega)).mono ?_
      rintro e w1 ⟨i2, r2, x, rfl, hx, hR2, hW1⟩
      rw [div_step_pow] at hR2
      have hr2 := hR2.len
      have hi2 := hR2.le
      obtain ⟨d, hd⟩ : ∃ d, d = n / b ^ j % b := ⟨_, rfl⟩
      rw [← hd] at hx
      subst hx
      have hd16 : d < 16 := by rw [hd]; have := Nat.mod_lt (n / b ^ j) (show 0 < b by have := HR.out; omega); have := HR.out; omega
      have hd16' : (d : Int) < 16 := by omega
      have HD := hide hd
      have HR2 := hide hR2
      have hA1' := hA.below hW1 (by omega)
      have hX1 := hX.below hW1 (by omega)
      have hW1' : Below w.heap.size w w1 := hW.trans (hW1.mono (by omega))
      have hs1 := hW1.size
      have hput := digs_put (b := b) (n := n) (A := A1) (j := j) hl (by have := HG.out; omega) HL.out
      rw [← hd] at hput
      have HPUT := hide hput
      have htab := hx_table d hd16
      clear hd hR2 hA hX hW hW1 hput HL
      by_cases hi0 : i2 = 0
      · have HZ : Hid (n / b ^ (j + 1) = 0) := HR2.out.zero_iff.1 hi0
        subst hi0
        have hsl := slice_text (w.heap.size + 1) A1 (by omega)
        go_wp2_with (refine store_nat rfl _ _ rfl rfl w.heap.size _ r2 rfl rfl kc pc hA1' hpc hr2 ?_; intro w2 hN2 hg2 hs2; have hX2 := hX1.grown hg2 (by simp); have c1 := hX2.cell A1 (by omega); have hfr := hX2.fr A1; have hX3 := hX2.set A1 (hx d); have hN3 := hN2.grown (grownBy_set (r0 w2) (b := w.heap.size + 1) A1 (.int .u8 ((hx d).toNat : Int))) (by simp); have c0 := hN3.c0; have hcv := hX3.conv (A1 := A1) (by simp [hl]) (by omega))
        go_ret
        refine ⟨_, rfl, ⟨j + 1, ⟨by omega, HZ.out, fun i h1 h2 => HNZ.out i h1 (by omega)⟩, ?_⟩, ?_⟩
        · simpa using HPUT.out
        · exact (hW1'.grown hg2 (by omega) (by intro k hk; cases hk; omega)).setCell (by simp) _
      · have hi0' : ((i2 : Int) == 0) = false := by rw [beq_eq_false_iff_ne]; omega
        have HZ : Hid (n / b ^ (j + 1) ≠ 0) := fun e => hi0 (HR2.out.zero_iff.2 e)
        go_wp2_with (refine store_nat rfl _ _ rfl rfl w.heap.size i2 r2 rfl rfl kc pc hA1' hpc hr2 ?_; intro w2 hN2 hg2 hs2; have hX2 := hX1.grown hg2 (by simp); have c1 := hX2.cell A1 (by omega); have hfr := hX2.fr A1; have hX3 := hX2.set A1 (hx d); have hN3 := hN2.grown (grownBy_set (r0 w2) (b := w.heap.size + 1) A1 (.int .u8 ((hx d).toNat : Int))) (by simp); have c0 := hN3.c0)
        go_roundg A1
        case measure => omega
        case rel =>
          refine ⟨j + 1, i2, r2, l.set A1 (hx d), ?_, by omega, rfl, HR2, ?_, hi2, hr2, HPUT, by simp [hl], hN3, hX3, ?_⟩
          · have := HG.out; unfold Hid; omega
          · intro i h1 h2
            by_cases e : i = j + 1
            · rw [e]; exact HZ.out
            · exact HNZ.out i h1 (by omega)
          · exact (hW1'.grown hg2 (by omega) (by intro k hk; cases hk; omega)).setCell (by simp) _

set_option maxHeartbeats 400000 in
theorem digits_any {n k : Nat} {p : List Int} (b : Nat) (r : Int) (w : World) (hP : Rep n k p) (hk : k ≤ 100) (hr : r = (b : Int)) (hr0 : 2 ≤ r) (hr1 : r ≤ 16) (hT : Tab w.heap.size w) :
    Calls Tryd.prog 79 #[.agg (natC k p), .int .i64 r] w fun e w' => ∃ s : ByteArray, e = .returned (.string s) ∧ InRad b n s ∧ Below w.heap.size w w' := by
  by_cases h10 : r = 10
  · have hb : b = 10 := by omega
    subst hb
    subst h10
    have hp := hP.len
    have A := NatAt.new w k p
    have hB : Below w.heap.size w (w.alloc (.cells (natC k p) 40)) := (Below.refl _ _).alloc (Nat.le_refl _) _
    have HP := hide hP
    have HT : Hid (Tab (w.alloc (.cells (natC k p) 40)).heap.size (w.alloc (.cells (natC k p) 40))) := (hT.on hB).up hB.size
    clear hP hT hr
    go_enter Tryd.func79, Tryd.ntmps79
    go_wp2_with (refine load_nat rfl _ rfl w.heap.size rfl k p A hp ?_)
    refine (text_any _ HP.out HT.out).mono ?_
    rintro e w1 ⟨s, rfl, hc, hv, hW1⟩
    have HS := hide (InRad.dec hc hv)
    clear hc hv
    go_wp2
    go_ret
    exact ⟨s, rfl, HS.out, hB.trans (hW1.mono (by simp))⟩
  · exact digits_more b r w hP hk hr hr0 hr1 h10
end Go.Proofs.YthbnacikomimfaaDoor

/-
  What isOne and the texts of whole numbers and fractions of impl answer.
-/
namespace Go.Proofs.YthbnacikomimfaaDoor
open Go.RowKit
set_option linter.unusedVariables false

theorem InRad.size_le {b n : Nat} {s : ByteArray} (h : InRad b n s) (hb : 2 ≤ b) (hn : n < 10 ^ 600) : s.size ≤ 2400 := by
  obtain ⟨j, hj, e⟩ := h
  have hs : s.size = j := by
    have h1 : s.data.toList.length = s.size := by simp
    rw [← h1, e, List.length_reverse, digs_len]
  rw [hs]
  by_cases h1 : j = 1
  · omega
  · have h2 := hj.2.2 (j - 1) (by have := hj.1; omega) (by have := hj.1; omega)
    have := room_gen (T := 600) (K := 0) hb hn (pow_le_of_div (by omega) h2)
    omega

/-- s is the text of the whole number in the radix b. -/
def WholeR (b : Nat) (g : Bool) (n : Nat) (s : ByteArray) : Prop := ∃ t : ByteArray, InRad b n t ∧ s.data.toList = (if g then [45] else []) ++ t.data.toList
/-- s is the text of the fraction in the radix b. -/
def NumR (b : Nat) (g : Bool) (n m : Nat) (s : ByteArray) : Prop := ∃ t u : ByteArray, InRad b n t ∧ InRad b m u ∧ s.data.toList = (if g then [45] else []) ++ t.data.toList ++ (if m = 1 then [] else 47 :: u.data.toList)
theorem NumR.inj {b : Nat} {g : Bool} {n m : Nat} {s s' : ByteArray} (h : NumR b g n m s) (h' : NumR b g n m s') : s = s' := by
  obtain ⟨t, u, h1, h2, h3⟩ := h
  obtain ⟨t', u', h1', h2', h3'⟩ := h'
  obtain rfl := h1.inj h1'
  obtain rfl := h2.inj h2'
  exact Go.WideShapes.bytes_inj (by rw [h3, h3'])

set_option maxHeartbeats 400000 in
set_option maxRecDepth 100000 in
theorem wholeText_any {n k : Nat} {p : List Int} (g : Bool) (b : Nat) (r : Int) (w : World) (hP : Rep n k p) (hk : k ≤ 100) (hr : r = (b : Int)) (hr0 : 2 ≤ r) (hr1 : r ≤ 16) (hT : Tab w.heap.size w) :
    Calls Tryd.prog 45 #[.agg (wholeC g k p), .int .i64 r] w fun e w' => ∃ s : ByteArray, e = .returned (.string s) ∧ WholeR b g n s ∧ Below w.heap.size w w' := by
  have hz := zero_nat.1
  have hz1 := zero_whole.1
  have hp := hP.len
  have A := WholeAt.new w g k p
  have hB : Below w.heap.size w (w.alloc (.cells (wholeC g k p) 69)) := (Below.refl _ _).alloc (Nat.le_refl _) _
  have a0 := A.neg
  have HT : Hid (Tab (w.alloc (.cells (wholeC g k p) 69)).heap.size (w.alloc (.cells (wholeC g k p) 69))) := (hT.on hB).up hB.size
  have HP := hide hP
  have HR := hide hr
  clear hP hT hr
  cases g with
  | true =>
    go_enter Tryd.func45, Tryd.ntmps45
    go_wp2_with (refine load_mid_nat rfl _ rfl w.heap.size 1 rfl k p A.size hp ?_)
    refine (digits_any b r _ HP.out hk HR.out hr0 hr1 HT.out).mono ?_
    rintro e w1 ⟨t, rfl, hI, hW1⟩
    have HI := hide hI
    have hts := hI.size_le (by have := HR.out; omega) (HP.out.fits.1 hk)
    clear hI
    go_wp2
    go_ret
    refine ⟨_, rfl, ⟨t, HI.out, ?_⟩, hB.trans (hW1.mono (by simp))⟩
    simp [ByteArray.data_append]
  | false =>
    go_enter Tryd.func45, Tryd.ntmps45
    go_wp2_with (refine load_mid_nat rfl _ rfl w.heap.size 1 rfl k p A.size hp ?_)
    refine (digits_any b r _ HP.out hk HR.out hr0 hr1 HT.out).mono ?_
    rintro e w1 ⟨t, rfl, hI, hW1⟩
    have HI := hide hI
    clear hI
    go_wp2
    go_ret
    exact ⟨_, rfl, ⟨t, HI.out, by simp⟩, hB.trans (hW1.mono (by simp))⟩

end Go.Proofs.YthbnacikomimfaaDoor

/-
  What tellNum of impl answers.
-/
namespace Go.Proofs.YthbnacikomimfaaDoor
open Go.RowKit
set_option linter.unusedVariables false

/-- It tells the fraction, where top and bottom are not too long. -/
def TellsN (g : Bool) (n m : Nat) (e : Ending) : Prop := ∃ s : ByteArray, e = .returned (.tuple #[.string s, .bool (decide (n < 10 ^ 600) && decide (m < 10 ^ 600))]) ∧ ((decide (n < 10 ^ 600) && decide (m < 10 ^ 600)) = true → NumR 10 g n m s) ∧ ((decide (n < 10 ^ 600) && decide (m < 10 ^ 600)) = false → s = ⟨#[]⟩)
theorem TellsN.same {g : Bool} {n m : Nat} {e e' : Ending} (h : TellsN g n m e) (h' : TellsN g n m e') : ∃ (s : ByteArray) (o : Bool), e = .returned (.tuple #[.string s, .bool o]) ∧ e' = .returned (.tuple #[.string s, .bool o]) := by
  obtain ⟨s, rfl, h1, h2⟩ := h
  obtain ⟨s', rfl, h1', h2'⟩ := h'
  have : s = s' := by
    cases hb : (decide (n < 10 ^ 600) && decide (m < 10 ^ 600)) with
    | true => exact (h1 hb).inj (h1' hb)
    | false => rw [h2 hb, h2' hb]
  subst this
  exact ⟨s, _, rfl, rfl⟩
theorem TellsN.yes {g : Bool} {n m : Nat} {s : ByteArray} (hn : n < 10 ^ 600) (hm : m < 10 ^ 600) (h : NumR 10 g n m s) : TellsN g n m (.returned (.tuple #[.string s, .bool true])) := by
  refine ⟨s, ?_, fun _ => h, fun hb => ?_⟩
  · rw [decide_eq_true hn, decide_eq_true hm]; rfl
  · rw [decide_eq_true hn, decide_eq_true hm] at hb; cases hb
theorem TellsN.no {g : Bool} {n m : Nat} (h : ¬ n < 10 ^ 600 ∨ ¬ m < 10 ^ 600) : TellsN g n m (.returned (.tuple #[.string ⟨#[]⟩, .bool false])) := by
  have hb : (decide (n < 10 ^ 600) && decide (m < 10 ^ 600)) = false := by
    rcases h with h | h
    · rw [decide_eq_false h]; rfl
    · rw [decide_eq_false h, Bool.and_false]
  refine ⟨⟨#[]⟩, by rw [hb], ?_, fun _ => rfl⟩
  intro h; rw [hb] at h; cases h

end Go.Proofs.YthbnacikomimfaaDoor
