/-
  The texts RadixText, ImplDigits, NumText, SpecToRadix, ImplAdd, ImplNumT, one behind the other, as one.
-/
import Derived.Test.YtcdidibphaemoaaDoorRadix
import Derived.Test.YtcdidibphaemoaaDoorDec
import Derived.WideShapes
import Derived.Test.YtcdidibphaemoaaDoorDivSmall
import Derived.Test.YtcdidibphaemoaaDoorImplGcd
import Derived.Test.YtcdidibphaemoaaDoorText
import Derived.Test.YtcdidibphaemoaaDoorHeldCall
import Derived.Lib.ConvBytes
import Derived.Test.YtcdidibphaemoaaDoorIsOne
import Derived.Test.YtcdidibphaemoaaDoorHeldMid
import Derived.Test.YtcdidibphaemoaaDoorSpecCarry
import Derived.Test.YtcdidibphaemoaaDoorSpecDiv
import Derived.Test.YtcdidibphaemoaaDoorDivMath
import Derived.Test.YtcdidibphaemoaaDoorSpecAdd
import Derived.Test.YtcdidibphaemoaaDoorReads
import Derived.Test.YtcdidibphaemoaaDoorReadNum
import Derived.Test.YtcdidibphaemoaaDoorSpecParts
import Derived.Test.YtcdidibphaemoaaDoorAns

/-
  The text of a number in a radix: plain facts.
-/
namespace Go.Proofs.YtcdidibphaemoaaDoor
set_option linter.unusedVariables false

/-- A digit's byte. -/
def hx (d : Nat) : UInt8 := if d < 10 then UInt8.ofNat (48 + d) else UInt8.ofNat (87 + d)
/-- The first j digits of n, the least first. -/
def digs (b n j : Nat) : List UInt8 := (List.range j).map (fun i => hx (n / b ^ i % b))

theorem digs_len (b n j : Nat) : (digs b n j).length = j := by simp [digs]
theorem digs_snoc (b n j : Nat) : digs b n (j + 1) = digs b n j ++ [hx (n / b ^ j % b)] := by
  unfold digs; rw [List.range_succ, List.map_append]; rfl

/-- j is how many digits n has. -/
def Cnt (b n j : Nat) : Prop := 1 ≤ j ∧ n / b ^ j = 0 ∧ ∀ i, 1 ≤ i → i < j → n / b ^ i ≠ 0
theorem Cnt.inj {b n j k : Nat} (h : Cnt b n j) (g : Cnt b n k) : j = k := by
  rcases Nat.lt_trichotomy j k with h1 | h1 | h1
  · exact absurd h.2.1 (g.2.2 j h.1 h1)
  · exact h1
  · exact absurd g.2.1 (h.2.2 k g.1 h1)

/-- s is the text of n in the radix b. -/
def InRad (b n : Nat) (s : ByteArray) : Prop := ∃ j, Cnt b n j ∧ s.data.toList = (digs b n j).reverse
theorem InRad.inj {b n : Nat} {s t : ByteArray} (h : InRad b n s) (g : InRad b n t) : s = t := by
  obtain ⟨j, hj, e⟩ := h
  obtain ⟨k, hk, e'⟩ := g
  obtain rfl := hj.inj hk
  exact Go.WideShapes.bytes_inj (by rw [e, e'])

theorem hx_dig (d : Nat) (h : d < 10) : isDig (hx d) = true ∧ dv (hx d) = d := by
  unfold hx; rw [if_pos h]; exact dig_ofNat d h

theorem digs_all (n j : Nat) : (digs 10 n j).reverse.all isDig = true := by
  rw [List.all_reverse, List.all_eq_true]
  intro x hx'
  simp only [digs, List.mem_map] at hx'
  obtain ⟨i, _, rfl⟩ := hx'
  exact (hx_dig _ (Nat.mod_lt _ (by omega))).1

theorem digs_val (n j : Nat) : dval (digs 10 n j).reverse = n % 10 ^ j := by
  induction j with
  | zero => simp [digs, dval, Nat.mod_one]
  | succ j ih =>
    rw [digs_snoc, List.reverse_append, List.reverse_singleton, List.singleton_append, dval_cons, ih, List.length_reverse, digs_len, (hx_dig _ (Nat.mod_lt _ (by omega))).2, Nat.pow_succ, Nat.mod_mul]
    rw [Nat.mul_comm]; omega

theorem InRad.dec {n : Nat} {s : ByteArray} (hc : canonB s.data.toList = true) (hv : dval s.data.toList = n) : InRad 10 n s := by
  have hall := canon_all hc
  have hlt := dval_lt _ hall
  rw [hv] at hlt
  refine ⟨s.data.toList.length, ⟨canon_pos hc, Nat.div_eq_of_lt hlt, fun i h1 h2 => ?_⟩, ?_⟩
  · have hlow := canon_low hc (by omega)
    rw [hv] at hlow
    have : 10 ^ i ≤ 10 ^ (s.data.toList.length - 1) := Nat.pow_le_pow_right (by omega) (by omega)
    have := Nat.div_pos (Nat.le_trans this hlow) (Nat.pow_pos (by omega))
    omega
  · refine dval_inj_len _ _ hall (digs_all _ _) (by rw [List.length_reverse, digs_len]) ?_
    rw [digs_val, hv, Nat.mod_eq_of_lt hlt]

/-- While something is left there is room for one digit more. -/
theorem room_gen {b n j T K : Nat} (hb : 2 ≤ b) (hn : n < 10 ^ T) (hj : b ^ j ≤ n) : j < 4 * T := by
  have h1 : (2 : Nat) ^ j ≤ b ^ j := Nat.pow_le_pow_left hb j
  have h2 : (10 : Nat) ^ T ≤ (2 ^ 4) ^ T := Nat.pow_le_pow_left (by decide) T
  rw [← Nat.pow_mul] at h2
  have h3 : (2 : Nat) ^ j < 2 ^ (4 * T) := Nat.lt_of_le_of_lt (Nat.le_trans h1 hj) (Nat.lt_of_lt_of_le hn h2)
  exact (Nat.pow_lt_pow_iff_right (by decide)).1 h3

theorem div_step_pow (n b j : Nat) : n / b ^ j / b = n / b ^ (j + 1) := by rw [Nat.div_div_eq_div_mul, Nat.pow_succ]

theorem pow_le_of_div {n b j : Nat} (hb : 0 < b) (h : n / b ^ j ≠ 0) : b ^ j ≤ n := by
  by_cases e : b ^ j ≤ n
  · exact e
  · exact absurd (Nat.div_eq_of_lt (by omega)) h

theorem hx_table (d : Nat) (h : d < 16) : ((⟨#[48, 49, 50, 51, 52, 53, 54, 55, 56, 57, 97, 98, 99, 100, 101, 102]⟩ : ByteArray)[d]'(by simpa [ByteArray.size] using h)) = hx d := by
  have key : ∀ d : Fin 16, ((⟨#[48, 49, 50, 51, 52, 53, 54, 55, 56, 57, 97, 98, 99, 100, 101, 102]⟩ : ByteArray)[d.val]'(by have := d.isLt; simp [ByteArray.size])) = hx d.val := by decide
  exact key ⟨d, h⟩
end Go.Proofs.YtcdidibphaemoaaDoor

/-
  What digits of impl's nats answers.
-/
namespace Go.Proofs.YtcdidibphaemoaaDoor
open Go.RowKit
set_option linter.unusedVariables false

/-- The bytes l in block b, an array of 2400. -/
def TxtAt (w : World) (b : Nat) (l : List UInt8) : Prop := w.heap[b]? = some (.cells (Lib.byteCells l).toArray 106 (0, 0))

theorem TxtAt.cell {w : World} {b : Nat} {l : List UInt8} (h : TxtAt w b l) (i : Nat) (hi : i < l.length) : w.cell? ⟨b, i, none⟩ = some (.int .u8 (l[i].toNat : Int)) := by
  rw [cell_of_row w b i _ _ _ h]; simp [Lib.byteCells, List.getElem?_eq_getElem hi]
theorem TxtAt.fr {w : World} {b : Nat} {l : List UInt8} (h : TxtAt w b l) (j : Nat) : w.frozen? ⟨b, j, none⟩ = false := frozen_of_row w b j _ _ h
theorem TxtAt.set {w : World} {b : Nat} {l : List UInt8} (h : TxtAt w b l) (i : Nat) (c : UInt8) : TxtAt (w.setCell ⟨b, i, none⟩ (.int .u8 (c.toNat : Int))) b (l.set i c) := by
  unfold TxtAt; rw [heap_setCell_same w b _ _ _ _ h]; simp [Lib.byteCells, List.map_set]
theorem TxtAt.lt {w : World} {b : Nat} {l : List UInt8} (h : TxtAt w b l) : b < w.heap.size := by
  unfold TxtAt at h; exact (Array.getElem?_eq_some_iff.1 h).1
theorem TxtAt.grown {w w' : World} {b : Nat} {l : List UInt8} {r : Option Nat} (h : TxtAt w b l) (hg : w.grownBy w' r) (hr : some b ≠ r) : TxtAt w' b l := by
  unfold TxtAt; rw [hg.block b h.lt hr]; exact h
theorem TxtAt.below {w w' : World} {b B : Nat} {l : List UInt8} (h : TxtAt w b l) (hg : Below B w w') (hr : b < B) : TxtAt w' b l := by
  unfold TxtAt; rw [hg.block b hr]; exact h

theorem zero_text : Tryd.zeroCells106 = (Lib.byteCells (List.replicate 2400 0)).toArray := by kernel_rfl

theorem digs_put {b n j A : Nat} {l : List UInt8} (hl : l.length = 2400) (hA : A + 1 + j = 2400) (h : l.drop (A + 1) = (digs b n j).reverse) : (l.set A (hx (n / b ^ j % b))).drop A = (digs b n (j + 1)).reverse := by
  rw [digs_snoc, List.reverse_append, List.reverse_singleton, List.singleton_append, ← h, List.drop_eq_getElem_cons (by simp; omega)]
  congr 1
  · simp
  · rw [List.drop_set_of_lt (by omega)]

theorem und_text : Tryd.prog.underlying 106 = some (.array (Tryd.prog.arrayLen 106) (Tryd.prog.elem 106)) := by kernel_rfl
theorem len_text : Tryd.prog.arrayLen 106 = 2400 := by kernel_rfl
theorem elem_text : Tryd.prog.elem 106 = 5 := by kernel_rfl
theorem size_u8 (w : World) : (sizeOf 5).run Tryd.prog w = .ok 1 w := by
  simp [sizeOf]
  rfl

theorem add_off (b j : Nat) : (⟨b, 0, none⟩ : Addr).add j = ⟨b, j, none⟩ := by unfold Addr.add; split <;> simp_all
theorem add_at (b i j : Nat) : (⟨b, i, none⟩ : Addr).add j = ⟨b, i + j, none⟩ := by unfold Addr.add; split <;> simp_all

theorem slice_text (B A1 : Nat) (h : A1 < 2400) (W : World) : (Instr.sliceAt 106 (.pointer (some ⟨B, 0, none⟩)) (some (.int .i64 (A1 : Int))) none none).run Tryd.prog W = .ok (.slice (some ⟨B, A1, none⟩) (2400 - A1) (2400 - A1)) W := by
  rw [run_sliceAt_array_l (P := Tryd.prog) W 106 ⟨B, 0, none⟩ und_text .i64 (A1 : Int) (by omega) (by rw [len_text]; omega), elem_text, size_u8, len_text]
  simp only [Result.andThen_ok, slicedAt, Int.toNat_natCast, Nat.mul_one]
  rw [if_neg (by omega), add_off]

theorem TxtAt.conv {w : World} {b A1 : Nat} {l : List UInt8} (h : TxtAt w b l) (hl : l.length = 2400) (hA : A1 < 2400) : (convert 87 9 (.slice (some ⟨b, A1, none⟩) (2400 - A1) (2400 - A1))).run Tryd.prog w = .ok (.string ⟨(l.drop A1).toArray⟩) w := by
  have hlen : (l.drop A1).length = 2400 - A1 := by simp [hl]
  have := run_convert_bytes_back (P := Tryd.prog) w 87 9 5 ⟨b, A1, none⟩ (2400 - A1) (l.drop A1) Tryd.underlying87 Tryd.underlying5 Tryd.underlying9 (fun j hj => by
    rw [add_at, h.cell (A1 + j) (by omega)]
    simp)
  rw [hlen] at this
  exact this

set_option maxHeartbeats 1000000 in
set_option maxRecDepth 100000 in
theorem digits_more {n k : Nat} {p : List Int} (b : Nat) (r : Int) (w : World) (hP : Rep n k p) (hk : k ≤ 100) (hr : r = (b : Int)) (hr0 : 2 ≤ r) (hr1 : r ≤ 16) (hr2 : r ≠ 10) :
    Calls Tryd.prog 95 #[.agg (natC k p), .int .i64 r] w fun e w' => ∃ s : ByteArray, e = .returned (.string s) ∧ InRad b n s ∧ Below w.heap.size w w' := by
  have hz := zero_nat.1
  have hp := hP.len
  have hr3 : (r == 10) = false := by simpa using hr2
  have HP := hide hP
  have HR := hide hr
  have A : NatAt ((w.alloc (.cells (natC k p) 36)).alloc (.cells Tryd.zeroCells106 106)) w.heap.size k p := (NatAt.new w k p).old _
  have X : TxtAt ((w.alloc (.cells (natC k p) 36)).alloc (.cells Tryd.zeroCells106 106)) (w.heap.size + 1) (List.replicate 2400 0) := by
    unfold TxtAt
    rw [← zero_text]
    have := heap_alloc_new (w.alloc (.cells (natC k p) 36)) (.cells Tryd.zeroCells106 106)
    rw [World.size_alloc] at this
    exact this
  have hB : Below w.heap.size w ((w.alloc (.cells (natC k p) 36)).alloc (.cells Tryd.zeroCells106 106)) := ((Below.refl _ _).alloc (Nat.le_refl _) _).alloc (by simp) _
  have HN : Hid (n < 10 ^ 600) := hP.fits.1 hk
  have HX0 : Hid ((List.replicate 2400 (0 : UInt8)).drop 2400 = (digs b n 0).reverse) := by
    unfold Hid; rw [List.drop_of_length_le (by simp)]; simp [digs]
  have HP0 : Hid (Rep (n / b ^ 0) k p) := by unfold Hid; rw [Nat.pow_zero, Nat.div_one]; exact hP
  have hrl : (List.replicate 2400 (0 : UInt8)).length = 2400 := List.length_replicate
  generalize List.replicate 2400 (0 : UInt8) = l0 at X HX0 hrl
  clear hP hr hr2
  go_enter Tryd.func95, Tryd.ntmps95
  go_wp2
  go_loopg [6] 2400 (fun g x wr => ∃ (j kc : Nat) (pc : List Int) (l : List UInt8), Hid (g + j = 2400) ∧ g ≤ 2400 ∧ x = .int .i64 (g : Int) ∧ Hid (Rep (n / b ^ j) kc pc) ∧ Hid (∀ i, 1 ≤ i → i ≤ j → n / b ^ i ≠ 0) ∧ kc ≤ 204 ∧ pc.length = 204 ∧ Hid (l.drop g = (digs b n j).reverse) ∧ l.length = 2400 ∧ NatAt wr w.heap.size kc pc ∧ TxtAt wr (w.heap.size + 1) l ∧ Below w.heap.size w wr)
  case atStart => exact ⟨0, k, p, l0, rfl, by omega, rfl, HP0, fun i h1 h2 => by omega, by omega, hp, HX0, hrl, A, X, hB⟩
  case round =>
    obtain ⟨j, kc, pc, l, HG, hg, rfl, HC, HNZ, hkc, hpc, HL, hl, hA, hX, hW⟩ := hrel
    clear A X hB
    have hWs := hW.size
    have lX := hX.lt
    have hj : j < 2400 := by
      by_cases h0 : j = 0
      · omega
      · exact room_gen (T := 600) (K := 0) (by have := HR.out; omega) HN.out (pow_le_of_div (by have := HR.out; omega) (HNZ.out j (by omega) (Nat.le_refl _)))
    cases gk with
    | zero => have := HG.out; omega
    | succ A1 =>
      have hA1 : (A1 : Int) < 2400 := by omega
      go_wp2_with (refine load_nat rfl _ rfl w.heap.size rfl kc pc hA hpc ?_)
      refine (divideSmall_any b r wr HC.out hkc HR.out (by omega) (by omega)).mono ?_
      rintro e w1 ⟨i2, r2, x, rfl, hx, hR2, hW1⟩
      rw [div_step_pow] at hR2
      have hr2 := hR2.len
      have hi2 := hR2.le
      obtain ⟨d, hd⟩ : ∃ d, d = n / b ^ j % b := ⟨_, rfl⟩
      rw [← hd] at hx
      subst hx
      have hd16 : d < 16 := by rw [hd]; have := Nat.mod_lt (n / b ^ j) (show 0 < b by have := HR.out; omega); have := HR.out; omega
      have hd16' : (d : Int) < 16 := by omega
      have HD := hide hd
      have HR2 := hide hR2
      have hA1' := hA.below hW1 (by omega)
      have hX1 := hX.below hW1 (by omega)
      have hW1' : Below w.heap.size w w1 := hW.trans (hW1.mono (by omega))
      have hs1 := hW1.size
      have hput := digs_put (b := b) (n := n) (A := A1) (j := j) hl (by have := HG.out; omega) HL.out
      rw [← hd] at hput
      have HPUT := hide hput
      have htab := hx_table d hd16
      clear hd hR2 hA hX hW hW1 hput HL
      by_cases hi0 : i2 = 0
      · have HZ : Hid (n / b ^ (j + 1) = 0) := HR2.out.zero_iff.1 hi0
        subst hi0
        have hsl := slice_text (w.heap.size + 1) A1 (by omega)
        go_wp2_with (refine store_nat rfl _ _ rfl rfl w.heap.size _ r2 rfl rfl kc pc hA1' hpc hr2 ?_; intro w2 hN2 hg2 hs2; have hX2 := hX1.grown hg2 (by simp); have c1 := hX2.cell A1 (by omega); have hfr := hX2.fr A1; have hX3 := hX2.set A1 (hx d); have hN3 := hN2.grown (grownBy_set (r0 w2) (b := w.heap.size + 1) A1 (.int .u8 ((hx d).toNat : Int))) (by simp); have c0 := hN3.c0; have hcv := hX3.conv (A1 := A1) (by simp [hl]) (by omega))
        go_ret
        refine ⟨_, rfl, ⟨j + 1, ⟨by omega, HZ.out, fun i h1 h2 => HNZ.out i h1 (by omega)⟩, ?_⟩, ?_⟩
        · simpa using HPUT.out
        · exact (hW1'.grown hg2 (by omega) (by intro k hk; cases hk; omega)).setCell (by simp) _
      · have hi0' : ((i2 : Int) == 0) = false := by rw [beq_eq_false_iff_ne]; omega
        have HZ : Hid (n / b ^ (j + 1) ≠ 0) := fun e => hi0 (HR2.out.zero_iff.2 e)
        go_wp2_with (refine store_nat rfl _ _ rfl rfl w.heap.size i2 r2 rfl rfl kc pc hA1' hpc hr2 ?_; intro w2 hN2 hg2 hs2; have hX2 := hX1.grown hg2 (by simp); have c1 := hX2.cell A1 (by omega); have hfr := hX2.fr A1; have hX3 := hX2.set A1 (hx d); have hN3 := hN2.grown (grownBy_set (r0 w2) (b := w.heap.size + 1) A1 (.int .u8 ((hx d).toNat : Int))) (by simp); have c0 := hN3.c0)
        go_roundg A1
        case measure => omega
        case rel =>
          refine ⟨j + 1, i2, r2, l.set A1 (hx d), ?_, by omega, rfl, HR2, ?_, hi2, hr2, HPUT, by simp [hl], hN3, hX3, ?_⟩
          · have := HG.out; unfold Hid; omega
          · intro i h1 h2
            by_cases e : i = j + 1
            · rw [e]; exact HZ.out
            · exact HNZ.out i h1 (by omega)
          · exact (hW1'.grown hg2 (by omega) (by intro k hk; cases hk; omega)).setCell (by simp) _

set_option maxHeartbeats 400000 in
theorem digits_any {n k : Nat} {p : List Int} (b : Nat) (r : Int) (w : World) (hP : Rep n k p) (hk : k ≤ 100) (hr : r = (b : Int)) (hr0 : 2 ≤ r) (hr1 : r ≤ 16) (hT : Tab w.heap.size w) :
    Calls Tryd.prog 95 #[.agg (natC k p), .int .i64 r] w fun e w' => ∃ s : ByteArray, e = .returned (.string s) ∧ InRad b n s ∧ Below w.heap.size w w' := by
  by_cases h10 : r = 10
  · have hb : b = 10 := by omega
    subst hb
    subst h10
    have hp := hP.len
    have A := NatAt.new w k p
    have hB : Below w.heap.size w (w.alloc (.cells (natC k p) 36)) := (Below.refl _ _).alloc (Nat.le_refl _) _
    have HP := hide hP
    have HT : Hid (Tab (w.alloc (.cells (natC k p) 36)).heap.size (w.alloc (.cells (natC k p) 36))) := (hT.on hB).up hB.size
    clear hP hT hr
    go_enter Tryd.func95, Tryd.ntmps95
    go_wp2_with (refine load_nat rfl _ rfl w.heap.size rfl k p A hp ?_)
    refine (text_any _ HP.out HT.out).mono ?_
    rintro e w1 ⟨s, rfl, hc, hv, hW1⟩
    have HS := hide (InRad.dec hc hv)
    clear hc hv
    go_wp2
    go_ret
    exact ⟨s, rfl, HS.out, hB.trans (hW1.mono (by simp))⟩
  · exact digits_more b r w hP hk hr hr0 hr1 h10
end Go.Proofs.YtcdidibphaemoaaDoor

/-
  What isOne and the texts of whole numbers and fractions of impl answer.
-/
namespace Go.Proofs.YtcdidibphaemoaaDoor
open Go.RowKit
set_option linter.unusedVariables false

theorem InRad.size_le {b n : Nat} {s : ByteArray} (h : InRad b n s) (hb : 2 ≤ b) (hn : n < 10 ^ 600) : s.size ≤ 2400 := by
  obtain ⟨j, hj, e⟩ := h
  have hs : s.size = j := by
    have h1 : s.data.toList.length = s.size := by simp
    rw [← h1, e, List.length_reverse, digs_len]
  rw [hs]
  by_cases h1 : j = 1
  · omega
  · have h2 := hj.2.2 (j - 1) (by have := hj.1; omega) (by have := hj.1; omega)
    have := room_gen (T := 600) (K := 0) hb hn (pow_le_of_div (by omega) h2)
    omega

/-- s is the text of the whole number in the radix b. -/
def WholeR (b : Nat) (g : Bool) (n : Nat) (s : ByteArray) : Prop := ∃ t : ByteArray, InRad b n t ∧ s.data.toList = (if g then [45] else []) ++ t.data.toList
/-- s is the text of the fraction in the radix b. -/
def NumR (b : Nat) (g : Bool) (n m : Nat) (s : ByteArray) : Prop := ∃ t u : ByteArray, InRad b n t ∧ InRad b m u ∧ s.data.toList = (if g then [45] else []) ++ t.data.toList ++ (if m = 1 then [] else 47 :: u.data.toList)
theorem NumR.inj {b : Nat} {g : Bool} {n m : Nat} {s s' : ByteArray} (h : NumR b g n m s) (h' : NumR b g n m s') : s = s' := by
  obtain ⟨t, u, h1, h2, h3⟩ := h
  obtain ⟨t', u', h1', h2', h3'⟩ := h'
  obtain rfl := h1.inj h1'
  obtain rfl := h2.inj h2'
  exact Go.WideShapes.bytes_inj (by rw [h3, h3'])

set_option maxHeartbeats 400000 in
set_option maxRecDepth 100000 in
theorem wholeText_any {n k : Nat} {p : List Int} (g : Bool) (b : Nat) (r : Int) (w : World) (hP : Rep n k p) (hk : k ≤ 100) (hr : r = (b : Int)) (hr0 : 2 ≤ r) (hr1 : r ≤ 16) (hT : Tab w.heap.size w) :
    Calls Tryd.prog 55 #[.agg (wholeC g k p), .int .i64 r] w fun e w' => ∃ s : ByteArray, e = .returned (.string s) ∧ WholeR b g n s ∧ Below w.heap.size w w' := by
  have hz := zero_nat.1
  have hz1 := zero_whole.1
  have hp := hP.len
  have A := WholeAt.new w g k p
  have hB : Below w.heap.size w (w.alloc (.cells (wholeC g k p) 43)) := (Below.refl _ _).alloc (Nat.le_refl _) _
  have a0 := A.neg
  have HT : Hid (Tab (w.alloc (.cells (wholeC g k p) 43)).heap.size (w.alloc (.cells (wholeC g k p) 43))) := (hT.on hB).up hB.size
  have HP := hide hP
  have HR := hide hr
  clear hP hT hr
  cases g with
  | true =>
    go_enter Tryd.func55, Tryd.ntmps55
    go_wp2_with (refine load_mid_nat rfl _ rfl w.heap.size 1 rfl k p A.size hp ?_)
    refine (digits_any b r _ HP.out hk HR.out hr0 hr1 HT.out).mono ?_
    rintro e w1 ⟨t, rfl, hI, hW1⟩
    have HI := hide hI
    have hts := hI.size_le (by have := HR.out; omega) (HP.out.fits.1 hk)
    clear hI
    go_wp2
    go_ret
    refine ⟨_, rfl, ⟨t, HI.out, ?_⟩, hB.trans (hW1.mono (by simp))⟩
    simp [ByteArray.data_append]
  | false =>
    go_enter Tryd.func55, Tryd.ntmps55
    go_wp2_with (refine load_mid_nat rfl _ rfl w.heap.size 1 rfl k p A.size hp ?_)
    refine (digits_any b r _ HP.out hk HR.out hr0 hr1 HT.out).mono ?_
    rintro e w1 ⟨t, rfl, hI, hW1⟩
    have HI := hide hI
    clear hI
    go_wp2
    go_ret
    exact ⟨_, rfl, ⟨t, HI.out, by simp⟩, hB.trans (hW1.mono (by simp))⟩

set_option maxHeartbeats 1000000 in
set_option maxRecDepth 100000 in
theorem numText_any {n m k j : Nat} {p q : List Int} (g : Bool) (b : Nat) (r : Int) (w : World) (hP : Rep n k p) (hQ : Rep m j q) (hk : k ≤ 100) (hj : j ≤ 100) (hr : r = (b : Int)) (hr0 : 2 ≤ r) (hr1 : r ≤ 16) (hT : Tab w.heap.size w) :
    Calls Tryd.prog 68 #[.agg (numC g k p j q), .int .i64 r] w fun e w' => ∃ s : ByteArray, e = .returned (.string s) ∧ NumR b g n m s ∧ Below w.heap.size w w' := by
  have hz := zero_nat.1
  have hz1 := zero_whole.1
  have hp := hP.len
  have hq := hQ.len
  have A := NumAt.new w g k p j q
  have hB : Below w.heap.size w (w.alloc (.cells (numC g k p j q) 45)) := (Below.refl _ _).alloc (Nat.le_refl _) _
  have HT := hide hT
  have HP := hide hP
  have HQ := hide hQ
  have HR := hide hr
  clear hP hQ hT hr
  go_enter Tryd.func68, Tryd.ntmps68
  go_wp2_with (refine load_num rfl _ rfl w.heap.size rfl g k p j q A hp hq ?_)
  refine (isWhole_any (n := n) g _ hp HQ.out).mono ?_
  rintro e w1 ⟨rfl, hW1⟩
  have A1 : NumAt w1 w.heap.size g k p j q := A.below hW1 (by simp)
  have hB1 : Below w.heap.size w w1 := hB.trans (hW1.mono (by simp))
  have HT1 : Hid (Tab w1.heap.size w1) := (HT.out.on hB1).up hB1.size
  have hs1 := hW1.size
  simp only [World.size_alloc] at hs1
  clear A hB hW1
  by_cases hm : m = 1
  · rw [decide_eq_true hm]
    go_wp2_with (refine load_mid_whole rfl _ rfl w.heap.size 0 rfl g k p A1.whole hp ?_)
    refine (wholeText_any g b r w1 HP.out hk HR.out hr0 hr1 HT1.out).mono ?_
    rintro e w2 ⟨s, rfl, ⟨t, ht, hs⟩, hW2⟩
    have HS : Hid (NumR b g n m s) := by
      obtain ⟨u, hu⟩ : ∃ u : ByteArray, InRad b m u := by
        rw [hm]
        refine ⟨⟨(digs b 1 1).reverse.toArray⟩, 1, ⟨by omega, ?_, fun i h1 h2 => by omega⟩, by simp⟩
        rw [Nat.pow_one]; exact Nat.div_eq_of_lt (by have := HR.out; omega)
      exact ⟨t, u, ht, hu, by rw [hs, if_pos hm, List.append_nil]⟩
    clear ht hs
    go_wp2
    go_ret
    exact ⟨s, rfl, HS.out, hB1.trans (hW2.mono (by omega))⟩
  · rw [decide_eq_false hm]
    go_wp2_with fail
    refine held_begin (fun w' => NumAt w' w.heap.size g k p j q) (by kernel_rfl) ?_
    have hS : NumAt w1.drew w.heap.size g k p j q := A1
    refine held_valS 0 (some 11) rfl rfl (by kernel_rfl) (by kernel_rfl) (by kernel_rfl) noPanic_put rfl (.pointer (some ⟨w.heap.size, 0, none⟩)) (fun _ _ => by go_simp) hS ?_
    simp only [Act.put, List.setIfInBounds_toArray, List.set_cons_zero, List.set_cons_succ]
    refine held_valS 1 (some 12) rfl rfl (by kernel_rfl) (by kernel_rfl) (by kernel_rfl) noPanic_put rfl (.agg (wholeC g k p)) (fun _ h => run_mid_whole _ rfl w.heap.size 0 rfl g k p h.whole hp) hS ?_
    simp only [Act.put, List.setIfInBounds_toArray, List.set_cons_zero, List.set_cons_succ]
    refine held_valS 2 (some 13) rfl rfl (by kernel_rfl) (by kernel_rfl) (by kernel_rfl) noPanic_put rfl (.int .i64 r) (fun _ _ => rfl) hS ?_
    simp only [Act.put, List.setIfInBounds_toArray, List.set_cons_zero, List.set_cons_succ]
    refine held_valS 5 (some 16) rfl rfl (by kernel_rfl) (by kernel_rfl) (by kernel_rfl) noPanic_put rfl (.pointer (some ⟨w.heap.size, 206, none⟩)) (fun _ _ => by go_simp) hS ?_
    simp only [Act.put, List.setIfInBounds_toArray, List.set_cons_zero, List.set_cons_succ]
    refine held_valS 6 (some 17) rfl rfl (by kernel_rfl) (by kernel_rfl) (by kernel_rfl) noPanic_put rfl (.agg (natC j q)) (fun _ h => run_mid_nat _ rfl w.heap.size 206 rfl j q (h.bottom hp) hq) hS ?_
    simp only [Act.put, List.setIfInBounds_toArray, List.set_cons_zero, List.set_cons_succ]
    refine held_valS 7 (some 18) rfl rfl (by kernel_rfl) (by kernel_rfl) (by kernel_rfl) noPanic_put rfl (.int .i64 r) (fun _ _ => rfl) hS ?_
    simp only [Act.put, List.setIfInBounds_toArray, List.set_cons_zero, List.set_cons_succ]
    have HT1' : Hid (Tab w1.drew.heap.size w1.drew) := (HT.out.on hB1.drew).up hB1.drew.size
    refine held_call 3 (some 14) (by kernel_rfl) rfl rfl rfl 55 #[.agg (wholeC g k p), .int .i64 r] (by go_simp) _ (wholeText_any g b r w1.drew HP.out hk HR.out hr0 hr1 HT1'.out) ?_
    rintro e w2 ⟨s, rfl, ⟨t, ht, hs⟩, hW2⟩
    have hW2 : Below w1.heap.size w1 w2 := ⟨hW2.os, hW2.tape, hW2.output, hW2.size, hW2.block⟩
    have hts := ht.size_le (by have := HR.out; omega) (HP.out.fits.1 hk)
    have hss : s.size ≤ 2401 := by
      have h1 : s.data.toList.length = s.size := by simp
      have h2 : t.data.toList.length = t.size := by simp
      rw [← h1, hs, List.length_append, h2]
      cases g <;> simp <;> omega
    have HS := hide (And.intro ht hs)
    clear ht hs
    have A2 : NumAt w2 w.heap.size g k p j q := A1.below hW2 (by omega)
    have hB2 : Below w.heap.size w w2 := hB1.trans (hW2.mono (by omega))
    have HT2 : Hid (Tab w2.heap.size w2) := (HT.out.on hB2).up hB2.size
    refine ⟨_, rfl, A2, ?_⟩
    simp only [Act.put, List.setIfInBounds_toArray, List.set_cons_zero, List.set_cons_succ]
    refine held_valS 4 (some 15) rfl rfl (by kernel_rfl) (by kernel_rfl) (by kernel_rfl) noPanic_put rfl (.string (s ++ ⟨#[47]⟩)) (fun _ _ => by go_simp; omega) A2 ?_
    simp only [Act.put, List.setIfInBounds_toArray, List.set_cons_zero, List.set_cons_succ]
    refine held_call 8 (some 19) (by kernel_rfl) rfl rfl rfl 95 #[.agg (natC j q), .int .i64 r] (by go_simp) _ (digits_any b r w2 HQ.out hj HR.out hr0 hr1 HT2.out) ?_
    rintro e w3 ⟨u, rfl, hu, hW3⟩
    have hus := hu.size_le (by have := HR.out; omega) (HQ.out.fits.1 hj)
    have A3 : NumAt w3 w.heap.size g k p j q := A2.below hW3 (by have := hW2.size; omega)
    have hB3 : Below w.heap.size w w3 := hB2.trans (hW3.mono hB2.size)
    refine ⟨_, rfl, A3, ?_⟩
    simp only [Act.put, List.setIfInBounds_toArray, List.set_cons_zero, List.set_cons_succ]
    have hsz : (s ++ (⟨#[47]⟩ : ByteArray)).size ≤ 2402 := by rw [ByteArray.size_append]; have : (⟨#[47]⟩ : ByteArray).size = 1 := rfl; omega
    refine held_valS 9 (some 20) rfl rfl (by kernel_rfl) (by kernel_rfl) (by kernel_rfl) noPanic_put rfl (.string (s ++ ⟨#[47]⟩ ++ u)) (fun _ _ => by go_simp; omega) A3 ?_
    simp only [Act.put, List.setIfInBounds_toArray, List.set_cons_zero, List.set_cons_succ]
    refine held_assign 10 (some 4) (by kernel_rfl) rfl rfl _ rfl rfl (.string (s ++ ⟨#[47]⟩ ++ u)) rfl A3 ?_
    simp only [Act.put, List.setIfInBounds_toArray, List.set_cons_zero, List.set_cons_succ]
    refine wpAnyH_done (by kernel_rfl) ?_ _
    refine NoPanic.normal ?_
    have HU := hide hu
    go_wp2
    go_ret
    refine ⟨_, rfl, ⟨t, u, HS.out.1, HU.out, ?_⟩, hB3⟩
    rw [if_neg hm, ByteArray.data_append, ByteArray.data_append, Array.toList_append, Array.toList_append, HS.out.2]
    simp

end Go.Proofs.YtcdidibphaemoaaDoor

/-
  What spec.l1ToRadix answers.
-/
namespace Go.Proofs.YtcdidibphaemoaaDoor
open Go.RowKit
set_option linter.unusedVariables false

/-- Where the division of the parts stands: those from t on are the quotient's, o is left of them. -/
structure DivB (p0 : List Int) (d : Int) (t : Nat) (o : Int) (p : List Int) : Prop where
  len : p.length = p0.length
  bd : ∀ i, 0 ≤ p.getD i 0 ∧ p.getD i 0 < 10000
  low : ∀ i, i < t → p.getD i 0 = p0.getD i 0
  r0 : 0 ≤ o
  r1 : o < d
  val : vb 10000 (p0.drop t) = d * vb 10000 (p.drop t) + o

theorem DivB.start {p : List Int} {d : Int} (h : ∀ x ∈ p, 0 ≤ x ∧ x < 10000) (hd : 0 < d) : DivB p d p.length 0 p :=
  ⟨rfl, fun i => getD_bd h i, fun _ _ => rfl, by omega, hd, by rw [List.drop_length]; simp [vb]⟩

theorem small4 {r x d : Int} (r0 : 0 ≤ r) (r1 : r < d) (x0 : 0 ≤ x) (x1 : x < 10000) : 0 ≤ (r * 10000 + x) / d ∧ (r * 10000 + x) / d < 10000 ∧ 0 ≤ (r * 10000 + x) % d ∧ (r * 10000 + x) % d < d := by
  refine ⟨Int.ediv_nonneg (by omega) (by omega), Int.ediv_lt_of_lt_mul (by omega) (by omega), Int.emod_nonneg _ (by omega), Int.emod_lt_of_pos _ (by omega)⟩

theorem DivB.step {p0 p : List Int} {d o : Int} {t : Nat} (h : DivB p0 d (t + 1) o p) (ht : t < p0.length) :
    DivB p0 d t ((o * 10000 + p.getD t 0) % d) (p.set t ((o * 10000 + p.getD t 0) / d)) ∧ vb 10000 ((p.set t ((o * 10000 + p.getD t 0) / d)).drop t) = (o * 10000 + p.getD t 0) / d + 10000 * vb 10000 (p.drop (t + 1)) := by
  have hb := small4 h.r0 h.r1 (h.bd t).1 (h.bd t).2
  have hlen := h.len
  have hd : (p.set t ((o * 10000 + p.getD t 0) / d)).drop (t + 1) = p.drop (t + 1) := by
    rw [List.drop_set_of_lt (by omega)]
  have hv : vb 10000 ((p.set t ((o * 10000 + p.getD t 0) / d)).drop t) = (o * 10000 + p.getD t 0) / d + 10000 * vb 10000 (p.drop (t + 1)) := by
    rw [drop_val4 (p.set t _) t (by simp; omega), hd, getDset _ _ _ _ (by omega), if_pos rfl]
  refine ⟨⟨by simp [h.len], fun i => ?_, fun i hi => ?_, hb.2.2.1, hb.2.2.2, ?_⟩, hv⟩
  · rw [getDset _ _ _ _ (by omega)]; split
    · exact ⟨hb.1, hb.2.1⟩
    · exact h.bd i
  · rw [getDset _ _ _ _ (by omega), if_neg (by omega)]; exact h.low i (by omega)
  · have e1 := h.val
    have e2 := h.low t (by omega)
    rw [hv, drop_val4 p0 t (by omega), e1, ← e2]
    have hx := Int.mul_ediv_add_emod (o * 10000 + p.getD t 0) d
    generalize vb 10000 (p.drop (t + 1)) = V at *
    generalize (o * 10000 + p.getD t 0) / d = X at *
    rw [Int.mul_add d X, ← Int.mul_assoc d 10000 V, Int.mul_comm d 10000, Int.mul_assoc]
    omega

theorem DivB.nonneg {p0 p : List Int} {d o : Int} {t : Nat} (h : DivB p0 d t o p) (k : Nat) : 0 ≤ vb 10000 (p.drop k) :=
  (vb_lt 10000 (by omega) (p.drop k) p.length (fun i => by rw [getD_drop]; exact (h.bd _).1) (fun i => by rw [getD_drop]; exact (h.bd _).2) (fun i hi => by
    rw [getD_drop]; simp [List.getD, List.getElem?_eq_none (show p.length ≤ k + i by omega)])).1

theorem DivB.end {n : Nat} {p0 p : List Int} {d o : Int} (h : DivB p0 d 0 o p) (hv0 : vb 10000 p0 = (n : Int)) (D : Nat) (hD : d = (D : Int)) : o = ((n % D : Nat) : Int) ∧ vb 10000 p = ((n / D : Nat) : Int) := by
  have hv := h.val
  simp only [List.drop_zero] at hv
  rw [hv0, hD] at hv
  have h0 := h.r0
  have h1 := h.r1
  have hb := h.nonneg 0
  rw [List.drop_zero] at hb
  obtain ⟨V, hV⟩ : ∃ V : Nat, vb 10000 p = (V : Int) := ⟨(vb 10000 p).toNat, by omega⟩
  obtain ⟨R, hR⟩ : ∃ R : Nat, o = (R : Int) := ⟨o.toNat, by omega⟩
  rw [hV, hR] at hv
  have hn : n = D * V + R := by exact_mod_cast hv
  have hRD : R < D := by omega
  have hDp : 0 < D := by omega
  have e1 : n / D = V := by rw [hn, Nat.mul_add_div hDp, Nat.div_eq_of_lt hRD]; omega
  have e2 : n % D = R := by rw [hn, Nat.mul_add_mod, Nat.mod_eq_of_lt hRD]
  exact ⟨by rw [e2, hR], by rw [e1, hV]⟩

theorem DivB.mem {p0 p : List Int} {d o : Int} {t : Nat} (h : DivB p0 d t o p) : ∀ x ∈ p, 0 ≤ x ∧ x < 10000 := fun x hx => by
  obtain ⟨i, hi, rfl⟩ := List.getElem_of_mem hx
  have := h.bd i
  simpa [List.getD, hi] using this

/-! ### Rows of bytes that are written -/
theorem own_set8 {w : World} {B g n cap : Nat} {l : List UInt8} (h : w.ownsRow B 5 1 (.slice (some ⟨g, 0, none⟩) n cap) n (Lib.byteCells l)) (j : Nat) (c : UInt8) :
    (w.setCell ⟨g, j, none⟩ (.int .u8 (c.toNat : Int))).ownsRow B 5 1 (.slice (some ⟨g, 0, none⟩) n cap) n (Lib.byteCells (l.set j c)) := by
  refine ⟨by have := h.1; simpa [Lib.byteCells] using this, ?_⟩
  rcases h.2 with ⟨e, _⟩ | ⟨g', cap', cur, e, hB, hg, h1, h2, h3, h4⟩
  · cases e
  · cases e
    refine .inr ⟨g, cap, _, rfl, hB, heap_setCell_same w g j cur 5 _ hg, h1, h2, by simpa using h3, ?_⟩
    rw [Array.toList_setIfInBounds, List.take_set, h4]
    simp [Lib.byteCells, List.map_set]
theorem own_cell8 {w : World} {B g n cap : Nat} {l : List UInt8} (h : w.ownsRow B 5 1 (.slice (some ⟨g, 0, none⟩) n cap) n (Lib.byteCells l)) (j : Nat) (hj : j < l.length) : w.cell? ⟨g, j, none⟩ = some (.int .u8 ((l.getD j 0).toNat : Int)) := by
  have := h.cells (g := g) rfl j (.int .u8 ((l.getD j 0).toNat : Int)) (by simp [Lib.byteCells, List.getD, List.getElem?_eq_getElem hj])
  have e : (⟨g, 0, none⟩ : Addr).add j = ⟨g, j, none⟩ := by unfold Addr.add; split <;> simp_all
  rw [e] at this; exact this
theorem own_form8p {w : World} {B n : Nat} {v : Value} {l : List UInt8} (h : w.ownsRow B 5 1 v n (Lib.byteCells l)) (hn : 0 < n) : ∃ g cap, v = .slice (some ⟨g, 0, none⟩) n cap ∧ B ≤ g ∧ g < w.heap.size ∧ n ≤ cap := by
  rcases h.2 with ⟨_, e⟩ | ⟨g, cap, cur, rfl, hB, hg, h1, h2, _⟩
  · omega
  · exact ⟨g, cap, rfl, hB, (Array.getElem?_eq_some_iff.1 hg).1, h1⟩
theorem own_fr8 {w : World} {B g n cap : Nat} {l : List UInt8} (h : w.ownsRow B 5 1 (.slice (some ⟨g, 0, none⟩) n cap) n (Lib.byteCells l)) (j : Nat) : w.frozen? ⟨g, j, none⟩ = false := by
  rcases h.2 with ⟨e, _⟩ | ⟨g', cap', cur, e, hB, hg, _⟩
  · cases e
  · cases e; exact frozen_of_row w g j cur 5 hg

/-- The first i and the last i bytes have changed places. -/
def revTo (L : List UInt8) : Nat → List UInt8
  | 0 => L
  | i + 1 => ((revTo L i).set i (L.getD (L.length - 1 - i) 0)).set (L.length - 1 - i) (L.getD i 0)

theorem revTo_len (L : List UInt8) (i : Nat) : (revTo L i).length = L.length := by
  induction i with
  | zero => rfl
  | succ i ih => simp [revTo, ih]
theorem getD_set8 (p : List UInt8) (j i : Nat) (v : UInt8) (h : j < p.length) : (p.set j v).getD i 0 = if i = j then v else p.getD i 0 := by
  simp only [List.getD, List.getElem?_set]
  by_cases e : j = i
  · subst e; simp [h]
  · rw [if_neg e, if_neg (fun h => e h.symm)]
theorem revTo_get (L : List UInt8) (i x : Nat) (hi : 2 * i ≤ L.length) (hx : x < L.length) : (revTo L i).getD x 0 = if x < i ∨ L.length - i ≤ x then L.getD (L.length - 1 - x) 0 else L.getD x 0 := by
  induction i with
  | zero => simp only [revTo]; rw [if_neg (by omega)]
  | succ i ih =>
    unfold revTo
    rw [getD_set8 _ _ _ _ (by simp [revTo_len]; omega), getD_set8 _ _ _ _ (by rw [revTo_len]; omega), ih (by omega)]
    by_cases e1 : x = L.length - 1 - i
    · rw [if_pos e1, if_pos (by omega)]; congr 1; omega
    · rw [if_neg e1]
      by_cases e2 : x = i
      · rw [if_pos e2, if_pos (by omega), e2]
      · rw [if_neg e2]
        by_cases e3 : x < i ∨ L.length - i ≤ x
        · rw [if_pos e3, if_pos (by omega)]
        · rw [if_neg e3, if_neg (by omega)]

theorem revTo_end (L : List UInt8) : revTo L (L.length / 2) = L.reverse := by
  apply List.ext_getElem
  · rw [revTo_len, List.length_reverse]
  · intro x h1 h2
    rw [revTo_len] at h1
    have h := revTo_get L (L.length / 2) x (by omega) h1
    have e : (revTo L (L.length / 2))[x]'(by rw [revTo_len]; exact h1) = (revTo L (L.length / 2)).getD x 0 := by simp [List.getD, revTo_len, h1]
    rw [e, h, List.getElem_reverse]
    split
    · simp [List.getD, show L.length - 1 - x < L.length by omega]
    · have : L.length - 1 - x = x := by omega
      simp [List.getD, h1, this]

set_option maxHeartbeats 1000000 in
set_option maxRecDepth 100000 in
theorem l1ToRadix_any (a : ByteArray) (b : Nat) (r : Int) (w : World) (hsa : a.size ≤ 600) (ha : canonB a.data.toList = true) (hr : r = (b : Int)) (hr0 : 2 ≤ r) (hr1 : r ≤ 16) :
    Calls Tryd.prog 66 #[.string a, .int .i64 r] w fun e w' => ∃ s : ByteArray, e = .returned (.string s) ∧ InRad b (dval a.data.toList) s ∧ Below w.heap.size w w' := by
  have HA := hideT ha
  have HR := hideT hr
  clear ha hr
  obtain ⟨n, hn⟩ : ∃ n, n = dval a.data.toList := ⟨_, rfl⟩
  rw [← hn]
  have HNV := hideT hn
  have HNN : Hid (n < 10 ^ 600) := by unfold Hid; rw [hn]; exact (canon_len_le HA.out 600 (by omega)).1 (by simpa using hsa)
  clear hn
  go_enter Tryd.func66, Tryd.ntmps66
  go_wp2_with fail
  refine (l1Limbs_any a _ (by omega) (canon_all HA.out)).mono ?_
  rintro e w1 ⟨v1, l1, rfl, hown1, h11, h12, hbd1, hval1, hW1⟩
  have hnp : 0 < l1.length := by have := canon_sz HA.out; omega
  obtain ⟨g1, c1, rfl, hBg1, hgs1, hnc1, hcm1⟩ := own_form hown1 hnp
  obtain ⟨m, hm⟩ : ∃ m, m = l1.length := ⟨_, rfl⟩
  have HM := hideT hm
  have hm2 : m ≤ 151 := by omega
  rw [← hm] at hown1 hnp hnc1 ⊢
  rw [← HNV.out] at hval1
  have HBD1 := hideT hbd1
  have HVAL1 : Hid (vb 10000 l1 = ((n / b ^ 0 : Nat) : Int)) := by unfold Hid; rw [Nat.pow_zero, Nat.div_one]; exact hval1
  unfold maxLen at hcm1
  obtain ⟨i0, hi, hz0, hz1, hz2⟩ := u8_info
  clear hbd1 hval1 h11 h12 hm
  go_wp2
  go_loopg [6] n (fun gh v wr => ∃ (j : Nat) (l : List Int), Hid (gh = n / b ^ j) ∧ l.length = m ∧ Hid (∀ x ∈ l, 0 ≤ x ∧ x < 10000) ∧ Hid (vb 10000 l = ((n / b ^ j : Nat) : Int)) ∧ Hid (∀ i, 1 ≤ i → i ≤ j → n / b ^ i ≠ 0) ∧ wr.ownsRow w.heap.size 3 1 (.slice (some ⟨g1, 0, none⟩) m c1) m (ints l) ∧ wr.ownsRow w1.heap.size 5 1 v j (Lib.byteCells (digs b n j)) ∧ w1.heap.size ≤ wr.heap.size ∧ Below w.heap.size w wr)
  case atStart => exact ⟨0, l1, by simp [Hid], HM.out.symm, HBD1, HVAL1, fun i h1 h2 => by omega, hown1, World.ownsRow_nil _ _ _ _, Nat.le_refl _, hW1⟩
  case round =>
    obtain ⟨j, l, HG, hlm, HBD, HVAL, HNZ, hownl, hownb, hws, hW⟩ := hrel
    clear hown1 hW1
    have hWs := hW.size
    obtain ⟨o6, c6, rfl⟩ := own_form8 hownb
    have hj : j < 2400 := by
      by_cases h0 : j = 0
      · omega
      · exact room_gen (T := 600) (K := 0) (by have := HR.out; omega) HNN.out (pow_le_of_div (by have := HR.out; omega) (HNZ.out j (by omega) (Nat.le_refl _)))
    have HS0 : Hid (DivB l r m 0 l) := by unfold Hid; rw [← hlm]; exact DivB.start HBD.out (by omega)
    have HA0 : Hid ((false = true) ↔ vb 10000 (l.drop m) ≠ 0) := by
      unfold Hid
      rw [← hlm, List.drop_length]; simp [vb]
    go_wp2
    go_loopg [7, 8, 9] m (fun gh x y z wq => ∃ (o : Int) (ab : Bool) (p : List Int), gh ≤ m ∧ x = .int .i64 o ∧ y = .bool ab ∧ z = .int .i64 ((gh : Int) - 1) ∧ 0 ≤ o ∧ o < r ∧ Hid (DivB l r gh o p) ∧ p.length = m ∧ Hid (ab = true ↔ vb 10000 (p.drop gh) ≠ 0) ∧ wq.ownsRow w.heap.size 3 1 (.slice (some ⟨g1, 0, none⟩) m c1) m (ints p) ∧ wq.ownsRow w1.heap.size 5 1 (.slice o6 j c6) j (Lib.byteCells (digs b n j)) ∧ w1.heap.size ≤ wq.heap.size ∧ Below w.heap.size w wq)
    case atStart => exact ⟨0, false, l, Nat.le_refl _, rfl, rfl, rfl, by omega, by omega, HS0, hlm, HA0, hownl, hownb, hws, hW⟩
    case round =>
      obtain ⟨o, ab, p, hgm, rfl, rfl, rfl, ho0, ho1, HD, hpl, HAB, hownp, hownb2, hws2, hW2⟩ := hrel
      clear hownl hownb hW HS0 HA0
      cases gk with
      | zero =>
        have hE := HD.out.end HVAL.out b HR.out
        rw [div_step_pow] at hE
        obtain ⟨hE1, hE2⟩ := hE
        obtain ⟨d, hd⟩ : ∃ d, d = n / b ^ j % b := ⟨_, rfl⟩
        rw [← hd] at hE1
        subst hE1
        have hd16 : d < 16 := by omega
        have hd16' : (d : Int) < 16 := by omega
        have htab := hx_table d hd16
        have hcat : Lib.byteCells (digs b n (j + 1)) = Lib.byteCells (digs b n j) ++ [.int .u8 ((hx d).toNat : Int)] := by
          rw [digs_snoc, ← hd]; simp [Lib.byteCells]
        have HCAT := hideT hcat
        rw [List.drop_zero] at HAB
        have HP := hideT (And.intro HD.out.mem hE2)
        have hge : ∀ k, Value.ownBlock (.slice o6 j c6) = some k → w1.heap.size ≤ k := fun k hk => own_ge hownb2 hk
        have hWs2 := hW2.size
        clear hd hE2 hcat HD HVAL
        cases ab with
        | true =>
          have HNZ' : Hid (n / b ^ (j + 1) ≠ 0) := by
            have h1 := HAB.out.1 rfl
            rw [HP.out.2] at h1
            unfold Hid; intro e; rw [e] at h1; exact h1 rfl
          go_wp2_with (first | (at_builtin; refine wpList_append_own _ rfl _ _ 87 rfl w1.heap.size 5 i0 (.int .u8 0) 1 1 Tryd.underlying87 hi hz0 hz1 hz2 rfl (by decide) _ _ _ rfl (hownb2.alloc _) ⟨wr.heap.size, 0, none⟩ 1 1 [.int .u8 ((hx d).toNat : Int)] rfl rfl (cell_one_new _ _ _) (one_byte _) (by unfold maxLen; omega) (by omega) (by simp; omega) ?_; intro v' w5 hown' hgrow _))
          go_roundg (n / b ^ (j + 1))
          case measure =>
            rw [HG.out, ← div_step_pow]
            have h2 := HNZ'.out
            rw [← div_step_pow] at h2
            exact Nat.div_lt_self (Nat.pos_of_ne_zero (fun e => h2 (by rw [e, Nat.zero_div]))) (by have := HR.out; omega)
          case rel =>
            refine ⟨j + 1, p, rfl, hpl, HP.out.1, HP.out.2, ?_, ?_, ?_, ?_, ?_⟩
            · intro i h1 h2
              by_cases e : i = j + 1
              · rw [e]; exact HNZ'.out
              · exact HNZ.out i h1 (by omega)
            · exact (hownp.alloc _).kept hgrow (.inr (fun e => by have := hge g1 (Eq.symm e); omega))
            · rw [HCAT.out]; exact hown'
            · have := hgrow.size; simp at this; omega
            · exact Below.grown (hW2.alloc hWs2 _) hgrow (by simp; omega) (fun k hk => by have := hge k hk; omega)
        | false =>
          have HZ : Hid (n / b ^ (j + 1) = 0) := by
            unfold Hid
            by_cases e : n / b ^ (j + 1) = 0
            · exact e
            · exact absurd (HAB.out.2 (by rw [HP.out.2]; omega)) (by simp)
          obtain ⟨J, hJ⟩ : ∃ J, J = j + 1 := ⟨_, rfl⟩
          have HJ := hideT hJ
          have hJ2 : J ≤ 2400 := by omega
          have hJ0 : 0 < J := by omega
          clear hJ
          go_wp2_with (first | (at_builtin; refine wpList_append_own _ rfl _ _ 87 rfl w1.heap.size 5 i0 (.int .u8 0) 1 1 Tryd.underlying87 hi hz0 hz1 hz2 rfl (by decide) _ _ _ rfl (hownb2.alloc _) ⟨wr.heap.size, 0, none⟩ 1 1 [.int .u8 ((hx d).toNat : Int)] rfl rfl (cell_one_new _ _ _) (one_byte _) (by unfold maxLen; omega) (by omega) (by simp; omega) ?_; intro v' w5 hown' hgrow _; rw [← HCAT.out, ← HJ.out] at hown'; obtain ⟨g6, c7, rfl, hBg6, hgs6, hnc6⟩ := own_form8p hown' hJ0))
          have hsz5 := hgrow.size
          have hW5 : Below w.heap.size w w5 := Below.grown (hW2.alloc hWs2 _) hgrow (by simp; omega) (fun k hk => by have := hge k hk; omega)
          have HCNT : Hid (Cnt b n J) := by
            unfold Hid
            rw [HJ.out]
            exact ⟨by omega, HZ.out, fun i h1 h2 => HNZ.out i h1 (by omega)⟩
          obtain ⟨L, hL⟩ : ∃ L, L = digs b n J := ⟨_, rfl⟩
          have HL := hideT hL
          have hLl : L.length = J := by rw [hL, digs_len]
          rw [← hL] at hown'
          clear hL hgrow HCAT hownb2 hownp hge htab HAB HP HZ HNZ
          go_loopg [11] (J / 2) (fun gh x wq => ∃ i : Nat, gh = J / 2 - i ∧ i ≤ J / 2 ∧ x = .int .i64 (i : Int) ∧ wq.ownsRow w1.heap.size 5 1 (.slice (some ⟨g6, 0, none⟩) J c7) J (Lib.byteCells (revTo L i)) ∧ Below w.heap.size w wq)
          case atStart => exact ⟨0, rfl, by omega, rfl, hown', hW5⟩
          case round =>
            obtain ⟨i, rfl, hij, rfl, hR, hW6⟩ := hrel
            clear hown' hW5
            have hrl : (revTo L i).length = J := by rw [revTo_len]; exact hLl
            by_cases hlt : (i : Int) < (J : Int) / 2
            · obtain ⟨y, hy⟩ : ∃ y, y = J - 1 - i := ⟨_, rfl⟩
              have hyJ : (y : Int) < (J : Int) := by omega
              have hiJ : (i : Int) < (J : Int) := by omega
              have hwy : IntKind.i64.wrap ((J : Int) - 1 - (i : Int)) = (y : Int) := by rw [IntKind.wrap_i64]; omega
              have ci := own_cell8 hR i (by omega)
              have cy := own_cell8 hR y (by omega)
              have hfi := own_fr8 hR i
              rw [revTo_get L i i (by omega) (by omega), if_neg (by omega)] at ci
              rw [revTo_get L i y (by omega) (by omega), if_neg (by omega)] at cy
              obtain ⟨eb, heb⟩ : ∃ eb, eb = L.getD y 0 := ⟨_, rfl⟩
              obtain ⟨ea, hea⟩ : ∃ ea, ea = L.getD i 0 := ⟨_, rfl⟩
              rw [← hea] at ci
              rw [← heb] at cy
              have hR1 := own_set8 hR i eb
              have hfy := own_fr8 hR1 y
              have cy1 := own_cell8 hR1 y (by simp; omega)
              have hR2 := own_set8 hR1 y ea
              rw [heb, hea] at hR2
              have HR2 := hideT hR2
              have HY := hideT (And.intro hy (And.intro hea heb))
              obtain ⟨ez, hez⟩ : ∃ ez, ez = ((revTo L i).set i eb).getD y 0 := ⟨_, rfl⟩
              rw [← hez] at cy1
              clear hy hR2 hR1 hea heb hez
              go_wp2
              go_roundg (J / 2 - (i + 1))
              case measure => omega
              case rel =>
                refine ⟨i + 1, rfl, by omega, by go_num, ?_, ?_⟩
                · have h := HR2.out
                  rw [← HY.out.2.1, ← HY.out.2.2] at h
                  show World.ownsRow _ _ _ _ _ _ (Lib.byteCells (((revTo L i).set i (L.getD (L.length - 1 - i) 0)).set (L.length - 1 - i) (L.getD i 0)))
                  rw [hLl, ← HY.out.1, ← HY.out.2.1, ← HY.out.2.2]
                  exact h
                · exact (hW6.setCell (by simp; omega) _).setCell (by simp; omega) _
            · have hi2 : i = J / 2 := by omega
              have hend : revTo L i = L.reverse := by rw [hi2, ← hLl]; exact revTo_end L
              rw [hend] at hR
              have hcv := own_conv hR (by rw [List.length_reverse]; exact hLl.symm) (by omega)
              clear hi2 hend hrl
              go_wp2
              go_ret
              refine ⟨_, rfl, ⟨J, HCNT.out, ?_⟩, hW6⟩
              rw [← HL.out]
      | succ t =>
        have cl := own_cell hownp t (by omega)
        have hfr := own_fr hownp t
        have htm : (t : Int) < (m : Int) := by omega
        obtain ⟨y, hy⟩ : ∃ y, y = p.getD t 0 := ⟨_, rfl⟩
        obtain ⟨hy0, hy1⟩ : 0 ≤ y ∧ y < 10000 := by rw [hy]; exact HD.out.bd t
        rw [← hy] at cl
        have hst := HD.out.step (by omega)
        rw [← hy] at hst
        have hb4 := small4 ho0 ho1 hy0 hy1
        obtain ⟨q, hq⟩ : ∃ q, q = (o * 10000 + y) / r := ⟨_, rfl⟩
        have hV := HD.out.nonneg (t + 1)
        have HST := hideT hst
        have hownp' := own_set hownp t ((o * 10000 + y) / r)
        have cl' := own_cell hownp' t (by simp; omega)
        rw [getDset _ _ _ _ (by omega), if_pos rfl] at cl'
        have hgr := grownBy_set (r0 wr) (b := g1) t (.int .i64 ((o * 10000 + y) / r))
        have hownb2' := hownb2.kept hgr (.inr (fun e => by have := own_ge hownb2 e; omega))
        have hW2' : Below w.heap.size w (wr.setCell ⟨g1, t, none⟩ (.int .i64 ((o * 10000 + y) / r))) := hW2.setCell hBg1 _
        clear hst hy
        cases ab with
        | true =>
          have hab : Hid (vb 10000 ((p.set t ((o * 10000 + y) / r)).drop t) ≠ 0) := by
            have h1 := HAB.out.1 rfl
            unfold Hid
            rw [HST.out.2]
            omega
          clear hV
          go_wp2
          go_roundg t
          case measure => omega
          case rel => exact ⟨_, true, _, by omega, rfl, rfl, by go_num, hb4.2.2.1, hb4.2.2.2, HST.out.1, by simp [hpl], ⟨fun _ => hab.out, fun _ => rfl⟩, hownp', hownb2', by rw [size_setCell]; exact hws2, hW2'⟩
        | false =>
          have hV0 : vb 10000 (p.drop (t + 1)) = 0 := by
            by_cases h : vb 10000 (p.drop (t + 1)) = 0
            · exact h
            · exact absurd (HAB.out.2 h) (by simp)
          by_cases hq0 : 0 < (o * 10000 + y) / r
          · have hab : Hid (vb 10000 ((p.set t ((o * 10000 + y) / r)).drop t) ≠ 0) := by
              unfold Hid
              rw [HST.out.2, hV0]
              omega
            clear hV hV0
            go_wp2
            go_roundg t
            case measure => omega
            case rel => exact ⟨_, true, _, by omega, rfl, rfl, by go_num, hb4.2.2.1, hb4.2.2.2, HST.out.1, by simp [hpl], ⟨fun _ => hab.out, fun _ => rfl⟩, hownp', hownb2', by rw [size_setCell]; exact hws2, hW2'⟩
          · have hab : Hid (vb 10000 ((p.set t ((o * 10000 + y) / r)).drop t) = 0) := by
              unfold Hid
              rw [HST.out.2, hV0]
              omega
            clear hV hV0
            go_wp2
            go_roundg t
            case measure => omega
            case rel => exact ⟨_, false, _, by omega, rfl, rfl, by go_num, hb4.2.2.1, hb4.2.2.2, HST.out.1, by simp [hpl], ⟨fun h => Bool.noConfusion h, fun h => absurd hab.out h⟩, hownp', hownb2', by rw [size_setCell]; exact hws2, hW2'⟩
end Go.Proofs.YtcdidibphaemoaaDoor

/-
  What impl.AddNat answers.
-/
namespace Go.Proofs.YtcdidibphaemoaaDoor
open Go.RowKit
set_option linter.unusedVariables false

theorem Rep.small {n k : Nat} {p : List Int} (h : Rep n k p) (hn : n < 10 ^ 600) : k ≤ 100 := h.fits.2 hn

end Go.Proofs.YtcdidibphaemoaaDoor

/-
  What impl.NumText and spec.NumText answer.
-/
namespace Go.Proofs.YtcdidibphaemoaaDoor
open Go.RowKit
set_option linter.unusedVariables false

/-- What NumText should answer. -/
def NumTAns (a : ByteArray) (r : Int) (e : Ending) : Prop :=
  ((okN a.data.toList && radOk r) = true ∧ ∃ s : ByteArray, e = .returned (.tuple #[.string s, .bool true]) ∧ NumR r.toNat (negN a.data.toList) (topN a.data.toList) (botN a.data.toList) s) ∨ ((okN a.data.toList && radOk r) = false ∧ Mute e)

theorem NumTAns.same {a : ByteArray} {r : Int} {e e' : Ending} (h : NumTAns a r e) (h' : NumTAns a r e') : ∃ (s : ByteArray) (o : Bool), e = .returned (.tuple #[.string s, .bool o]) ∧ e' = .returned (.tuple #[.string s, .bool o]) := by
  rcases h with ⟨g1, s, rfl, h⟩ | ⟨g1, h⟩ <;> rcases h' with ⟨g2, t, rfl, h'⟩ | ⟨g2, h'⟩
  · obtain rfl := h.inj h'
    exact ⟨s, true, rfl, rfl⟩
  · rw [g1] at g2; cases g2
  · rw [g1] at g2; cases g2
  · exact h.same h'

theorem rad_nat2 {r : Int} (h : radOk r = true) : r = (r.toNat : Int) ∧ 2 ≤ r ∧ r ≤ 16 := by
  have := (radOk_iff r).1 h
  exact ⟨by omega, by omega, by omega⟩

set_option maxHeartbeats 1000000 in
set_option maxRecDepth 100000 in
theorem implNumText_any (a : ByteArray) (r : Int) (w : World) (hsa : a.size ≤ maxLen) (hT : Tab w.heap.size w) :
    Calls Tryd.prog 32 #[.string a, .int .i64 r] w fun e w' => NumTAns a r e ∧ Below w.heap.size w w' := by
  have hz := zero_num.1
  have HT : Hid (Tab w.heap.size w) := hT
  clear hT
  go_enter Tryd.func32, Tryd.ntmps32
  go_wp2_with fail
  refine (readNum_any a _ hsa).mono ?_
  rintro e w1 ⟨⟨g, k, j, p, q, rfl, hp, hq, hR⟩, hW1⟩
  have hs1 := hW1.size
  have A := NumAt.new w1 false 0 zP 0 zP
  have hB : Below w.heap.size w (w1.alloc (.cells (numC false 0 zP 0 zP) 45)) := hW1.alloc (by omega) _
  cases hok : okN a.data.toList with
  | true =>
    obtain ⟨hg, ra, rb, hk, hj, hj0⟩ := hR hok
    have RA := hideT (And.intro ra rb)
    have HG := hideT (And.intro hok hg)
    clear hg ra rb hR hok
    go_wp2_with (refine store_num rfl _ _ rfl rfl w1.heap.size g k p j q rfl rfl false 0 zP 0 zP A zP_len zP_len hp hq ?_; intro w2 hN2 hg2 hs2)
    refine (goodRadix_any r _).mono ?_
    rintro e w3 ⟨rfl, rfl⟩
    have hB2 : Below w.heap.size w w3 := hB.grown hg2 (by simp; omega) (by intro k hk; cases hk; omega)
    have HT2 : Hid (Tab w3.heap.size w3) := (HT.out.on hB2).up hB2.size
    cases hr : radOk r with
    | true =>
      obtain ⟨hr1, hr2, hr3⟩ := rad_nat2 hr
      have HR := hideT hr1
      have HOK : Hid ((okN a.data.toList && radOk r) = true) := by unfold Hid; rw [HG.out.1, hr]; rfl
      clear hr hr1
      go_wp2_with (refine load_num rfl _ rfl w1.heap.size rfl g k p j q hN2 hp hq ?_)
      refine (numText_any g r.toNat r w3 RA.out.1 RA.out.2 hk hj HR.out hr2 hr3 HT2.out).mono ?_
      rintro e w4 ⟨s, rfl, hI, hW4⟩
      have HI : Hid (NumTAns a r (.returned (.tuple #[.string s, .bool true]))) := .inl ⟨HOK.out, s, rfl, by rw [← HG.out.2]; exact hI⟩
      clear hI
      go_wp2
      go_ret2
      exact ⟨HI.out, hB2.trans (hW4.mono hB2.size)⟩
    | false =>
      have HI : Hid (NumTAns a r (.returned (.tuple #[.string ⟨#[]⟩, .bool false]))) := .inr ⟨by rw [hr, Bool.and_false], rfl⟩
      clear hr
      go_wp2
      go_ret2
      exact ⟨HI.out, hB2⟩
  | false =>
    have HI : Hid (NumTAns a r (.returned (.tuple #[.string ⟨#[]⟩, .bool false]))) := .inr ⟨by rw [hok, Bool.false_and], rfl⟩
    clear hok hR
    go_wp2_with (refine store_num rfl _ _ rfl rfl w1.heap.size g k p j q rfl rfl false 0 zP 0 zP A zP_len zP_len hp hq ?_; intro w2 hN2 hg2 hs2)
    go_ret2
    exact ⟨HI.out, hB.grown hg2 (by simp; omega) (by intro k hk; cases hk; omega)⟩

theorem InRad.one {b : Nat} (hb : 2 ≤ b) : InRad b 1 ⟨#[49]⟩ := by
  refine ⟨1, ⟨Nat.le_refl _, by rw [Nat.pow_one]; exact Nat.div_eq_of_lt (by omega), fun i h1 h2 => by omega⟩, ?_⟩
  have : digs b 1 1 = [hx 1] := by
    rw [show (1 : Nat) = 0 + 1 from rfl, digs_snoc, Nat.pow_zero, Nat.div_one, Nat.mod_eq_of_lt (by omega)]; rfl
  rw [this]; rfl
theorem good_small {s : ByteArray} (h : goodB s.data.toList = true) : s.size ≤ 600 := by have := good_len h; simpa using this

set_option maxHeartbeats 1000000 in
set_option maxRecDepth 100000 in
theorem specNumText_any (a : ByteArray) (r : Int) (w : World) (hsa : a.size ≤ maxLen) :
    Calls Tryd.prog 31 #[.string a, .int .i64 r] w fun e w' => NumTAns a r e ∧ Below w.heap.size w w' := by
  go_enter Tryd.func31, Tryd.ntmps31
  go_wp2_with fail
  refine (l2Parts_any a _ hsa).mono ?_
  rintro e w1 ⟨⟨g, t, u, rfl, hR⟩, hW1⟩
  cases hok : okN a.data.toList with
  | true =>
    obtain ⟨hg, g1, v1, g2, v2⟩ := hR hok
    have hts := good_small g1
    have hus := good_small g2
    have HG := hideT (And.intro hok (And.intro hg (And.intro (good_canon g1) (good_canon g2))))
    have HV : Hid (dval t.data.toList = topN a.data.toList ∧ dval u.data.toList = botN a.data.toList ∧ dval t.data.toList < 10 ^ 600 ∧ dval u.data.toList < 10 ^ 600) := ⟨v1, v2, good_lt' g1, good_lt' g2⟩
    clear hok hg g1 v1 g2 v2 hR
    go_wp2_with fail
    refine (l1Radix_any r _).mono ?_
    rintro e w' ⟨rfl, rfl⟩
    cases hr : radOk r with
    | true =>
      obtain ⟨hr1, hr2, hr3⟩ := rad_nat2 hr
      have hb2 : Hid (2 ≤ r.toNat) := by unfold Hid; omega
      have HR := hideT hr1
      have HOK : Hid ((okN a.data.toList && radOk r) = true) := by unfold Hid; rw [HG.out.1, hr]; rfl
      clear hr hr1
      go_wp2_with fail
      refine (l1ToRadix_any t r.toNat r _ hts HG.out.2.2.1 HR.out hr2 hr3).mono ?_
      rintro e w2 ⟨x, rfl, hI, hW2⟩
      have hxs : x.size ≤ 2400 := hI.size_le hb2.out HV.out.2.2.1
      have HI := hideT hI
      have hW2' : Below w.heap.size w w2 := hW1.trans (hW2.mono hW1.size)
      clear hI hW1 hW2
      by_cases hu1 : u.data.toList = [49]
      · have hu1' : (u.toList == [49]) = true := str_eq hu1
        have HY : Hid (∀ s : ByteArray, s.data.toList = (if g then [45] else []) ++ x.data.toList → NumTAns a r (.returned (.tuple #[.string s, .bool true]))) := by
          intro s hs
          refine .inl ⟨HOK.out, s, rfl, ?_⟩
          have hb1 : botN a.data.toList = 1 := by rw [← HV.out.2.1, hu1]; decide
          refine ⟨x, ⟨#[49]⟩, by rw [← HV.out.1]; exact HI.out, by rw [hb1]; exact InRad.one hb2.out, ?_⟩
          rw [hs, if_pos hb1, HG.out.2.1]; simp
        clear hu1
        cases g with
        | true =>
          go_wp2
          go_ret2
          exact ⟨HY.out _ (by simp [ByteArray.data_append]), hW2'⟩
        | false =>
          go_wp2
          go_ret2
          exact ⟨HY.out _ (by simp), hW2'⟩
      · have hu1' : (u.toList == [49]) = false := str_ne hu1
        have HB1 : Hid (¬ botN a.data.toList = 1) := by unfold Hid; rw [← HV.out.2.1]; exact fun e => hu1 ((canon_one HG.out.2.2.2).1 e)
        have HY : Hid (∀ s y : ByteArray, InRad r.toNat (dval u.data.toList) y → s.data.toList = (if g then [45] else []) ++ x.data.toList ++ 47 :: y.data.toList → NumTAns a r (.returned (.tuple #[.string s, .bool true]))) := by
          intro s y hy hs
          refine .inl ⟨HOK.out, s, rfl, x, y, by rw [← HV.out.1]; exact HI.out, by rw [← HV.out.2.1]; exact hy, ?_⟩
          rw [hs, if_neg HB1.out, HG.out.2.1]
        clear hu1
        cases g with
        | true =>
          go_wp2_with fail
          refine (l1ToRadix_any u r.toNat r _ hus HG.out.2.2.2 HR.out hr2 hr3).mono ?_
          rintro e w3 ⟨y, rfl, hJ, hW3⟩
          have hys : y.size ≤ 2400 := hJ.size_le hb2.out HV.out.2.2.2
          have HJ := hideT hJ
          clear hJ
          go_wp2
          go_ret2
          exact ⟨HY.out _ y HJ.out (by simp [ByteArray.data_append]), hW2'.trans (hW3.mono hW2'.size)⟩
        | false =>
          go_wp2_with fail
          refine (l1ToRadix_any u r.toNat r _ hus HG.out.2.2.2 HR.out hr2 hr3).mono ?_
          rintro e w3 ⟨y, rfl, hJ, hW3⟩
          have hys : y.size ≤ 2400 := hJ.size_le hb2.out HV.out.2.2.2
          have HJ := hideT hJ
          clear hJ
          go_wp2
          go_ret2
          exact ⟨HY.out _ y HJ.out (by simp [ByteArray.data_append]), hW2'.trans (hW3.mono hW2'.size)⟩
    | false =>
      have HI : Hid (NumTAns a r (.returned (.tuple #[.string ⟨#[]⟩, .bool false]))) := .inr ⟨by rw [hr, Bool.and_false], rfl⟩
      clear hr
      go_wp2
      go_ret2
      exact ⟨HI.out, hW1⟩
  | false =>
    have HI : Hid (NumTAns a r (.returned (.tuple #[.string ⟨#[]⟩, .bool false]))) := .inr ⟨by rw [hok, Bool.false_and], rfl⟩
    clear hok hR
    go_wp2
    go_ret2
    exact ⟨HI.out, hW1⟩
end Go.Proofs.YtcdidibphaemoaaDoor
