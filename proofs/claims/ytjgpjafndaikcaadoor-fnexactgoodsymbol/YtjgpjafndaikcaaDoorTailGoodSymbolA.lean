/-
  The texts RadixText, ImplDigits, NumText, TellNum, ImplAdd, ImplMake, SpecMake, SpecReadNum, ReadDigits, RdCore, ImplReadNum, Times, SpecMul, SpecPow, Symbol, one behind the other, as one.
-/
import Derived.Test.YtjgpjafndaikcaaDoorRadix
import Derived.Test.YtjgpjafndaikcaaDoorDec
import Derived.WideShapes
import Derived.Test.YtjgpjafndaikcaaDoorDivSmall
import Derived.Test.YtjgpjafndaikcaaDoorImplGcd
import Derived.Test.YtjgpjafndaikcaaDoorText
import Derived.Test.YtjgpjafndaikcaaDoorHeldCall
import Derived.Lib.ConvBytes
import Derived.Test.YtjgpjafndaikcaaDoorIsOne
import Derived.Test.YtjgpjafndaikcaaDoorHeldMid
import Derived.Test.YtjgpjafndaikcaaDoorSpecAdd
import Derived.Test.YtjgpjafndaikcaaDoorReads
import Derived.Test.YtjgpjafndaikcaaDoorAns
import Derived.Test.YtjgpjafndaikcaaDoorSpecGcd
import Derived.Test.YtjgpjafndaikcaaDoorReadMath
import Derived.Test.YtjgpjafndaikcaaDoorSpecParts
import Derived.Test.YtjgpjafndaikcaaDoorSpecOfRadix
import Derived.Deep.CutBlock
import Derived.Deep.DeepCutAuto
import Derived.Test.YtjgpjafndaikcaaDoorTimesSmall
import Derived.Test.YtjgpjafndaikcaaDoorPlus
import Derived.Deep.QuietTactic
import Derived.BigQuiet
import Derived.Test.YtjgpjafndaikcaaDoorMinus
import Derived.Test.YtjgpjafndaikcaaDoorSpecSub
import Derived.Deep.OwnRows
import Derived.Test.YtjgpjafndaikcaaDoorStr
import Derived.Test.YtjgpjafndaikcaaDoorShelfCut
import Derived.Lib.IndexLaws

/-
  The text of a number in a radix: plain facts.
-/
namespace Go.Proofs.YtjgpjafndaikcaaDoor
set_option linter.unusedVariables false

/-- A digit's byte. -/
def hx (d : Nat) : UInt8 := if d < 10 then UInt8.ofNat (48 + d) else UInt8.ofNat (87 + d)
/-- The first j digits of n, the least first. -/
def digs (b n j : Nat) : List UInt8 := (List.range j).map (fun i => hx (n / b ^ i % b))

theorem digs_len (b n j : Nat) : (digs b n j).length = j := by simp [digs]
theorem digs_snoc (b n j : Nat) : digs b n (j + 1) = digs b n j ++ [hx (n / b ^ j % b)] := by
  unfold digs; rw [List.range_succ, List.map_append]; rfl

/-- j is how many digits n has. -/
def Cnt (b n j : Nat) : Prop := 1 ≤ j ∧ n / b ^ j = 0 ∧ ∀ i, 1 ≤ i → i < j → n / b ^ i ≠ 0
theorem Cnt.inj {b n j k : Nat} (h : Cnt b n j) (g : Cnt b n k) : j = k := by
  rcases Nat.lt_trichotomy j k with h1 | h1 | h1
  · exact absurd h.2.1 (g.2.2 j h.1 h1)
  · exact h1
  · exact absurd g.2.1 (h.2.2 k g.1 h1)

/-- s is the text of n in the radix b. -/
def InRad (b n : Nat) (s : ByteArray) : Prop := ∃ j, Cnt b n j ∧ s.data.toList = (digs b n j).reverse
theorem InRad.inj {b n : Nat} {s t : ByteArray} (h : InRad b n s) (g : InRad b n t) : s = t := by
  obtain ⟨j, hj, e⟩ := h
  obtain ⟨k, hk, e'⟩ := g
  obtain rfl := hj.inj hk
  exact Go.WideShapes.bytes_inj (by rw [e, e'])

theorem hx_dig (d : Nat) (h : d < 10) : isDig (hx d) = true ∧ dv (hx d) = d := by
  unfold hx; rw [if_pos h]; exact dig_ofNat d h

theorem digs_all (n j : Nat) : (digs 10 n j).reverse.all isDig = true := by
  rw [List.all_reverse, List.all_eq_true]
  intro x hx'
  simp only [digs, List.mem_map] at hx'
  obtain ⟨i, _, rfl⟩ := hx'
  exact (hx_dig _ (Nat.mod_lt _ (by omega))).1

theorem digs_val (n j : Nat) : dval (digs 10 n j).reverse = n % 10 ^ j := by
  induction j with
  | zero => simp [digs, dval, Nat.mod_one]
  | succ j ih =>
    rw [digs_snoc, List.reverse_append, List.reverse_singleton, List.singleton_append, dval_cons, ih, List.length_reverse, digs_len, (hx_dig _ (Nat.mod_lt _ (by omega))).2, Nat.pow_succ, Nat.mod_mul]
    rw [Nat.mul_comm]; omega

theorem InRad.dec {n : Nat} {s : ByteArray} (hc : canonB s.data.toList = true) (hv : dval s.data.toList = n) : InRad 10 n s := by
  have hall := canon_all hc
  have hlt := dval_lt _ hall
  rw [hv] at hlt
  refine ⟨s.data.toList.length, ⟨canon_pos hc, Nat.div_eq_of_lt hlt, fun i h1 h2 => ?_⟩, ?_⟩
  · have hlow := canon_low hc (by omega)
    rw [hv] at hlow
    have : 10 ^ i ≤ 10 ^ (s.data.toList.length - 1) := Nat.pow_le_pow_right (by omega) (by omega)
    have := Nat.div_pos (Nat.le_trans this hlow) (Nat.pow_pos (by omega))
    omega
  · refine dval_inj_len _ _ hall (digs_all _ _) (by rw [List.length_reverse, digs_len]) ?_
    rw [digs_val, hv, Nat.mod_eq_of_lt hlt]

/-- While something is left there is room for one digit more. -/
theorem room_gen {b n j T K : Nat} (hb : 2 ≤ b) (hn : n < 10 ^ T) (hj : b ^ j ≤ n) : j < 4 * T := by
  have h1 : (2 : Nat) ^ j ≤ b ^ j := Nat.pow_le_pow_left hb j
  have h2 : (10 : Nat) ^ T ≤ (2 ^ 4) ^ T := Nat.pow_le_pow_left (by decide) T
  rw [← Nat.pow_mul] at h2
  have h3 : (2 : Nat) ^ j < 2 ^ (4 * T) := Nat.lt_of_le_of_lt (Nat.le_trans h1 hj) (Nat.lt_of_lt_of_le hn h2)
  exact (Nat.pow_lt_pow_iff_right (by decide)).1 h3

theorem div_step_pow (n b j : Nat) : n / b ^ j / b = n / b ^ (j + 1) := by rw [Nat.div_div_eq_div_mul, Nat.pow_succ]

theorem pow_le_of_div {n b j : Nat} (hb : 0 < b) (h : n / b ^ j ≠ 0) : b ^ j ≤ n := by
  by_cases e : b ^ j ≤ n
  · exact e
  · exact absurd (Nat.div_eq_of_lt (by omega)) h

theorem hx_table (d : Nat) (h : d < 16) : ((⟨#[48, 49, 50, 51, 52, 53, 54, 55, 56, 57, 97, 98, 99, 100, 101, 102]⟩ : ByteArray)[d]'(by simpa [ByteArray.size] using h)) = hx d := by
  have key : ∀ d : Fin 16, ((⟨#[48, 49, 50, 51, 52, 53, 54, 55, 56, 57, 97, 98, 99, 100, 101, 102]⟩ : ByteArray)[d.val]'(by have := d.isLt; simp [ByteArray.size])) = hx d.val := by decide
  exact key ⟨d, h⟩
end Go.Proofs.YtjgpjafndaikcaaDoor

/-
  What digits of impl's nats answers.
-/
namespace Go.Proofs.YtjgpjafndaikcaaDoor
open Go.RowKit
set_option linter.unusedVariables false

/-- The bytes l in block b, an array of 2400. -/
def TxtAt (w : World) (b : Nat) (l : List UInt8) : Prop := w.heap[b]? = some (.cells (Lib.byteCells l).toArray 79 (0, 0))

theorem TxtAt.cell {w : World} {b : Nat} {l : List UInt8} (h : TxtAt w b l) (i : Nat) (hi : i < l.length) : w.cell? ⟨b, i, none⟩ = some (.int .u8 (l[i].toNat : Int)) := by
  rw [cell_of_row w b i _ _ _ h]; simp [Lib.byteCells, List.getElem?_eq_getElem hi]
theorem TxtAt.fr {w : World} {b : Nat} {l : List UInt8} (h : TxtAt w b l) (j : Nat) : w.frozen? ⟨b, j, none⟩ = false := frozen_of_row w b j _ _ h
theorem TxtAt.set {w : World} {b : Nat} {l : List UInt8} (h : TxtAt w b l) (i : Nat) (c : UInt8) : TxtAt (w.setCell ⟨b, i, none⟩ (.int .u8 (c.toNat : Int))) b (l.set i c) := by
  unfold TxtAt; rw [heap_setCell_same w b _ _ _ _ h]; simp [Lib.byteCells, List.map_set]
theorem TxtAt.lt {w : World} {b : Nat} {l : List UInt8} (h : TxtAt w b l) : b < w.heap.size := by
  unfold TxtAt at h; exact (Array.getElem?_eq_some_iff.1 h).1
theorem TxtAt.grown {w w' : World} {b : Nat} {l : List UInt8} {r : Option Nat} (h : TxtAt w b l) (hg : w.grownBy w' r) (hr : some b ≠ r) : TxtAt w' b l := by
  unfold TxtAt; rw [hg.block b h.lt hr]; exact h
theorem TxtAt.below {w w' : World} {b B : Nat} {l : List UInt8} (h : TxtAt w b l) (hg : Below B w w') (hr : b < B) : TxtAt w' b l := by
  unfold TxtAt; rw [hg.block b hr]; exact h

theorem zero_text : Tryd.zeroCells79 = (Lib.byteCells (List.replicate 2400 0)).toArray := by kernel_rfl

theorem digs_put {b n j A : Nat} {l : List UInt8} (hl : l.length = 2400) (hA : A + 1 + j = 2400) (h : l.drop (A + 1) = (digs b n j).reverse) : (l.set A (hx (n / b ^ j % b))).drop A = (digs b n (j + 1)).reverse := by
  rw [digs_snoc, List.reverse_append, List.reverse_singleton, List.singleton_append, ← h, List.drop_eq_getElem_cons (by simp; omega)]
  congr 1
  · simp
  · rw [List.drop_set_of_lt (by omega)]

theorem und_text : Tryd.prog.underlying 79 = some (.array (Tryd.prog.arrayLen 79) (Tryd.prog.elem 79)) := by kernel_rfl
theorem len_text : Tryd.prog.arrayLen 79 = 2400 := by kernel_rfl
theorem elem_text : Tryd.prog.elem 79 = 5 := by kernel_rfl
theorem size_u8 (w : World) : (sizeOf 5).run Tryd.prog w = .ok 1 w := by
  simp [sizeOf]
  rfl

theorem add_off (b j : Nat) : (⟨b, 0, none⟩ : Addr).add j = ⟨b, j, none⟩ := by unfold Addr.add; split <;> simp_all
theorem add_at (b i j : Nat) : (⟨b, i, none⟩ : Addr).add j = ⟨b, i + j, none⟩ := by unfold Addr.add; split <;> simp_all

theorem slice_text (B A1 : Nat) (h : A1 < 2400) (W : World) : (Instr.sliceAt 79 (.pointer (some ⟨B, 0, none⟩)) (some (.int .i64 (A1 : Int))) none none).run Tryd.prog W = .ok (.slice (some ⟨B, A1, none⟩) (2400 - A1) (2400 - A1)) W := by
  rw [run_sliceAt_array_l (P := Tryd.prog) W 79 ⟨B, 0, none⟩ und_text .i64 (A1 : Int) (by omega) (by rw [len_text]; omega), elem_text, size_u8, len_text]
  simp only [Result.andThen_ok, slicedAt, Int.toNat_natCast, Nat.mul_one]
  rw [if_neg (by omega), add_off]

theorem TxtAt.conv {w : World} {b A1 : Nat} {l : List UInt8} (h : TxtAt w b l) (hl : l.length = 2400) (hA : A1 < 2400) : (convert 75 9 (.slice (some ⟨b, A1, none⟩) (2400 - A1) (2400 - A1))).run Tryd.prog w = .ok (.string ⟨(l.drop A1).toArray⟩) w := by
  have hlen : (l.drop A1).length = 2400 - A1 := by simp [hl]
  have := run_convert_bytes_back (P := Tryd.prog) w 75 9 5 ⟨b, A1, none⟩ (2400 - A1) (l.drop A1) Tryd.underlying75 Tryd.underlying5 Tryd.underlying9 (fun j hj => by
    rw [add_at, h.cell (A1 + j) (by omega)]
    simp)
  rw [hlen] at this
  exact this

set_option maxHeartbeats 1000000 in
set_option maxRecDepth 100000 in
theorem digits_more {n k : Nat} {p : List Int} (b : Nat) (r : Int) (w : World) (hP : Rep n k p) (hk : k ≤ 100) (hr : r = (b : Int)) (hr0 : 2 ≤ r) (hr1 : r ≤ 16) (hr2 : r ≠ 10) :
    Calls Tryd.prog 43 #[.agg (natC k p), .int .i64 r] w fun e w' => ∃ s : ByteArray, e = .returned (.string s) ∧ InRad b n s ∧ Below w.heap.size w w' := by
  have hz := zero_nat.1
  have hp := hP.len
  have hr3 : (r == 10) = false := by simpa using hr2
  have HP := hide hP
  have HR := hide hr
  have A : NatAt ((w.alloc (.cells (natC k p) 35)).alloc (.cells Tryd.zeroCells79 79)) w.heap.size k p := (NatAt.new w k p).old _
  have X : TxtAt ((w.alloc (.cells (natC k p) 35)).alloc (.cells Tryd.zeroCells79 79)) (w.heap.size + 1) (List.replicate 2400 0) := by
    unfold TxtAt
    rw [← zero_text]
    have := heap_alloc_new (w.alloc (.cells (natC k p) 35)) (.cells Tryd.zeroCells79 79)
    rw [World.size_alloc] at this
    exact this
  have hB : Below w.heap.size w ((w.alloc (.cells (natC k p) 35)).alloc (.cells Tryd.zeroCells79 79)) := ((Below.refl _ _).alloc (Nat.le_refl _) _).alloc (by simp) _
  have HN : Hid (n < 10 ^ 600) := hP.fits.1 hk
  have HX0 : Hid ((List.replicate 2400 (0 : UInt8)).drop 2400 = (digs b n 0).reverse) := by
    unfold Hid; rw [List.drop_of_length_le (by simp)]; simp [digs]
  have HP0 : Hid (Rep (n / b ^ 0) k p) := by unfold Hid; rw [Nat.pow_zero, Nat.div_one]; exact hP
  have hrl : (List.replicate 2400 (0 : UInt8)).length = 2400 := List.length_replicate
  generalize List.replicate 2400 (0 : UInt8) = l0 at X HX0 hrl
  clear hP hr hr2
  go_enter Tryd.func43, Tryd.ntmps43
  go_wp2
  go_loopg [6] 2400 (fun g x wr => ∃ (j kc : Nat) (pc : List Int) (l : List UInt8), Hid (g + j = 2400) ∧ g ≤ 2400 ∧ x = .int .i64 (g : Int) ∧ Hid (Rep (n / b ^ j) kc pc) ∧ Hid (∀ i, 1 ≤ i → i ≤ j → n / b ^ i ≠ 0) ∧ kc ≤ 204 ∧ pc.length = 204 ∧ Hid (l.drop g = (digs b n j).reverse) ∧ l.length = 2400 ∧ NatAt wr w.heap.size kc pc ∧ TxtAt wr (w.heap.size + 1) l ∧ Below w.heap.size w wr)
  case atStart => exact ⟨0, k, p, l0, rfl, by omega, rfl, HP0, fun i h1 h2 => by omega, by omega, hp, HX0, hrl, A, X, hB⟩
  case round =>
    obtain ⟨j, kc, pc, l, HG, hg, rfl, HC, HNZ, hkc, hpc, HL, hl, hA, hX, hW⟩ := hrel
    clear A X hB
    have hWs := hW.size
    have lX := hX.lt
    have hj : j < 2400 := by
      by_cases h0 : j = 0
      · omega
      · exact room_gen (T := 600) (K := 0) (by have := HR.out; omega) HN.out (pow_le_of_div (by have := HR.out; omega) (HNZ.out j (by omega) (Nat.le_refl _)))
    cases gk with
    | zero => have := HG.out; omega
    | succ A1 =>
      have hA1 : (A1 : Int) < 2400 := by omega
      go_wp2_with (refine load_nat rfl _ rfl w.heap.size rfl kc pc hA hpc ?_)
      refine (divideSmall_any b r wr HC.out hkc HR.out (by omega) (by omega)).mono ?_
      rintro e w1 ⟨i2, r2, x, rfl, hx, hR2, hW1⟩
      rw [div_step_pow] at hR2
      have hr2 := hR2.len
      have hi2 := hR2.le
      obtain ⟨d, hd⟩ : ∃ d, d = n / b ^ j % b := ⟨_, rfl⟩
      rw [← hd] at hx
      subst hx
      have hd16 : d < 16 := by rw [hd]; have := Nat.mod_lt (n / b ^ j) (show 0 < b by have := HR.out; omega); have := HR.out; omega
      have hd16' : (d : Int) < 16 := by omega
      have HD := hide hd
      have HR2 := hide hR2
      have hA1' := hA.below hW1 (by omega)
      have hX1 := hX.below hW1 (by omega)
      have hW1' : Below w.heap.size w w1 := hW.trans (hW1.mono (by omega))
      have hs1 := hW1.size
      have hput := digs_put (b := b) (n := n) (A := A1) (j := j) hl (by have := HG.out; omega) HL.out
      rw [← hd] at hput
      have HPUT := hide hput
      have htab := hx_table d hd16
      clear hd hR2 hA hX hW hW1 hput HL
      by_cases hi0 : i2 = 0
      · have HZ : Hid (n / b ^ (j + 1) = 0) := HR2.out.zero_iff.1 hi0
        subst hi0
        have hsl := slice_text (w.heap.size + 1) A1 (by omega)
        go_wp2_with (refine store_nat rfl _ _ rfl rfl w.heap.size _ r2 rfl rfl kc pc hA1' hpc hr2 ?_; intro w2 hN2 hg2 hs2; have hX2 := hX1.grown hg2 (by simp); have c1 := hX2.cell A1 (by omega); have hfr := hX2.fr A1; have hX3 := hX2.set A1 (hx d); have hN3 := hN2.grown (grownBy_set (r0 w2) (b := w.heap.size + 1) A1 (.int .u8 ((hx d).toNat : Int))) (by simp); have c0 := hN3.c0; have hcv := hX3.conv (A1 := A1) (by simp [hl]) (by omega))
        go_ret
        refine ⟨_, rfl, ⟨j + 1, ⟨by omega, HZ.out, fun i h1 h2 => HNZ.out i h1 (by omega)⟩, ?_⟩, ?_⟩
        · simpa using HPUT.out
        · exact (hW1'.grown hg2 (by omega) (by intro k hk; cases hk; omega)).setCell (by simp) _
      · have hi0' : ((i2 : Int) == 0) = false := by rw [beq_eq_false_iff_ne]; omega
        have HZ : Hid (n / b ^ (j + 1) ≠ 0) := fun e => hi0 (HR2.out.zero_iff.2 e)
        go_wp2_with (refine store_nat rfl _ _ rfl rfl w.heap.size i2 r2 rfl rfl kc pc hA1' hpc hr2 ?_; intro w2 hN2 hg2 hs2; have hX2 := hX1.grown hg2 (by simp); have c1 := hX2.cell A1 (by omega); have hfr := hX2.fr A1; have hX3 := hX2.set A1 (hx d); have hN3 := hN2.grown (grownBy_set (r0 w2) (b := w.heap.size + 1) A1 (.int .u8 ((hx d).toNat : Int))) (by simp); have c0 := hN3.c0)
        go_roundg A1
        case measure => omega
        case rel =>
          refine ⟨j + 1, i2, r2, l.set A1 (hx d), ?_, by omega, rfl, HR2, ?_, hi2, hr2, HPUT, by simp [hl], hN3, hX3, ?_⟩
          · have := HG.out; unfold Hid; omega
          · intro i h1 h2
            by_cases e : i = j + 1
            · rw [e]; exact HZ.out
            · exact HNZ.out i h1 (by omega)
          · exact (hW1'.grown hg2 (by omega) (by intro k hk; cases hk; omega)).setCell (by simp) _

set_option maxHeartbeats 400000 in
theorem digits_any {n k : Nat} {p : List Int} (b : Nat) (r : Int) (w : World) (hP : Rep n k p) (hk : k ≤ 100) (hr : r = (b : Int)) (hr0 : 2 ≤ r) (hr1 : r ≤ 16) (hT : Tab w.heap.size w) :
    Calls Tryd.prog 43 #[.agg (natC k p), .int .i64 r] w fun e w' => ∃ s : ByteArray, e = .returned (.string s) ∧ InRad b n s ∧ Below w.heap.size w w' := by
  by_cases h10 : r = 10
  · have hb : b = 10 := by omega
    subst hb
    subst h10
    have hp := hP.len
    have A := NatAt.new w k p
    have hB : Below w.heap.size w (w.alloc (.cells (natC k p) 35)) := (Below.refl _ _).alloc (Nat.le_refl _) _
    have HP := hide hP
    have HT : Hid (Tab (w.alloc (.cells (natC k p) 35)).heap.size (w.alloc (.cells (natC k p) 35))) := (hT.on hB).up hB.size
    clear hP hT hr
    go_enter Tryd.func43, Tryd.ntmps43
    go_wp2_with (refine load_nat rfl _ rfl w.heap.size rfl k p A hp ?_)
    refine (text_any _ HP.out HT.out).mono ?_
    rintro e w1 ⟨s, rfl, hc, hv, hW1⟩
    have HS := hide (InRad.dec hc hv)
    clear hc hv
    go_wp2
    go_ret
    exact ⟨s, rfl, HS.out, hB.trans (hW1.mono (by simp))⟩
  · exact digits_more b r w hP hk hr hr0 hr1 h10
end Go.Proofs.YtjgpjafndaikcaaDoor

/-
  What isOne and the texts of whole numbers and fractions of impl answer.
-/
namespace Go.Proofs.YtjgpjafndaikcaaDoor
open Go.RowKit
set_option linter.unusedVariables false

theorem InRad.size_le {b n : Nat} {s : ByteArray} (h : InRad b n s) (hb : 2 ≤ b) (hn : n < 10 ^ 600) : s.size ≤ 2400 := by
  obtain ⟨j, hj, e⟩ := h
  have hs : s.size = j := by
    have h1 : s.data.toList.length = s.size := by simp
    rw [← h1, e, List.length_reverse, digs_len]
  rw [hs]
  by_cases h1 : j = 1
  · omega
  · have h2 := hj.2.2 (j - 1) (by have := hj.1; omega) (by have := hj.1; omega)
    have := room_gen (T := 600) (K := 0) hb hn (pow_le_of_div (by omega) h2)
    omega

/-- s is the text of the whole number in the radix b. -/
def WholeR (b : Nat) (g : Bool) (n : Nat) (s : ByteArray) : Prop := ∃ t : ByteArray, InRad b n t ∧ s.data.toList = (if g then [45] else []) ++ t.data.toList
/-- s is the text of the fraction in the radix b. -/
def NumR (b : Nat) (g : Bool) (n m : Nat) (s : ByteArray) : Prop := ∃ t u : ByteArray, InRad b n t ∧ InRad b m u ∧ s.data.toList = (if g then [45] else []) ++ t.data.toList ++ (if m = 1 then [] else 47 :: u.data.toList)
theorem NumR.inj {b : Nat} {g : Bool} {n m : Nat} {s s' : ByteArray} (h : NumR b g n m s) (h' : NumR b g n m s') : s = s' := by
  obtain ⟨t, u, h1, h2, h3⟩ := h
  obtain ⟨t', u', h1', h2', h3'⟩ := h'
  obtain rfl := h1.inj h1'
  obtain rfl := h2.inj h2'
  exact Go.WideShapes.bytes_inj (by rw [h3, h3'])

set_option maxHeartbeats 400000 in
set_option maxRecDepth 100000 in
theorem wholeText_any {n k : Nat} {p : List Int} (g : Bool) (b : Nat) (r : Int) (w : World) (hP : Rep n k p) (hk : k ≤ 100) (hr : r = (b : Int)) (hr0 : 2 ≤ r) (hr1 : r ≤ 16) (hT : Tab w.heap.size w) :
    Calls Tryd.prog 42 #[.agg (wholeC g k p), .int .i64 r] w fun e w' => ∃ s : ByteArray, e = .returned (.string s) ∧ WholeR b g n s ∧ Below w.heap.size w w' := by
  have hz := zero_nat.1
  have hz1 := zero_whole.1
  have hp := hP.len
  have A := WholeAt.new w g k p
  have hB : Below w.heap.size w (w.alloc (.cells (wholeC g k p) 40)) := (Below.refl _ _).alloc (Nat.le_refl _) _
  have a0 := A.neg
  have HT : Hid (Tab (w.alloc (.cells (wholeC g k p) 40)).heap.size (w.alloc (.cells (wholeC g k p) 40))) := (hT.on hB).up hB.size
  have HP := hide hP
  have HR := hide hr
  clear hP hT hr
  cases g with
  | true =>
    go_enter Tryd.func42, Tryd.ntmps42
    go_wp2_with (refine load_mid_nat rfl _ rfl w.heap.size 1 rfl k p A.size hp ?_)
    refine (digits_any b r _ HP.out hk HR.out hr0 hr1 HT.out).mono ?_
    rintro e w1 ⟨t, rfl, hI, hW1⟩
    have HI := hide hI
    have hts := hI.size_le (by have := HR.out; omega) (HP.out.fits.1 hk)
    clear hI
    go_wp2
    go_ret
    refine ⟨_, rfl, ⟨t, HI.out, ?_⟩, hB.trans (hW1.mono (by simp))⟩
    simp [ByteArray.data_append]
  | false =>
    go_enter Tryd.func42, Tryd.ntmps42
    go_wp2_with (refine load_mid_nat rfl _ rfl w.heap.size 1 rfl k p A.size hp ?_)
    refine (digits_any b r _ HP.out hk HR.out hr0 hr1 HT.out).mono ?_
    rintro e w1 ⟨t, rfl, hI, hW1⟩
    have HI := hide hI
    clear hI
    go_wp2
    go_ret
    exact ⟨_, rfl, ⟨t, HI.out, by simp⟩, hB.trans (hW1.mono (by simp))⟩

set_option maxHeartbeats 1000000 in
set_option maxRecDepth 100000 in
theorem numText_any {n m k j : Nat} {p q : List Int} (g : Bool) (b : Nat) (r : Int) (w : World) (hP : Rep n k p) (hQ : Rep m j q) (hk : k ≤ 100) (hj : j ≤ 100) (hr : r = (b : Int)) (hr0 : 2 ≤ r) (hr1 : r ≤ 16) (hT : Tab w.heap.size w) :
    Calls Tryd.prog 28 #[.agg (numC g k p j q), .int .i64 r] w fun e w' => ∃ s : ByteArray, e = .returned (.string s) ∧ NumR b g n m s ∧ Below w.heap.size w w' := by
  have hz := zero_nat.1
  have hz1 := zero_whole.1
  have hp := hP.len
  have hq := hQ.len
  have A := NumAt.new w g k p j q
  have hB : Below w.heap.size w (w.alloc (.cells (numC g k p j q) 42)) := (Below.refl _ _).alloc (Nat.le_refl _) _
  have HT := hide hT
  have HP := hide hP
  have HQ := hide hQ
  have HR := hide hr
  clear hP hQ hT hr
  go_enter Tryd.func28, Tryd.ntmps28
  go_wp2_with (refine load_num rfl _ rfl w.heap.size rfl g k p j q A hp hq ?_)
  refine (isWhole_any (n := n) g _ hp HQ.out).mono ?_
  rintro e w1 ⟨rfl, hW1⟩
  have A1 : NumAt w1 w.heap.size g k p j q := A.below hW1 (by simp)
  have hB1 : Below w.heap.size w w1 := hB.trans (hW1.mono (by simp))
  have HT1 : Hid (Tab w1.heap.size w1) := (HT.out.on hB1).up hB1.size
  have hs1 := hW1.size
  simp only [World.size_alloc] at hs1
  clear A hB hW1
  by_cases hm : m = 1
  · rw [decide_eq_true hm]
    go_wp2_with (refine load_mid_whole rfl _ rfl w.heap.size 0 rfl g k p A1.whole hp ?_)
    refine (wholeText_any g b r w1 HP.out hk HR.out hr0 hr1 HT1.out).mono ?_
    rintro e w2 ⟨s, rfl, ⟨t, ht, hs⟩, hW2⟩
    have HS : Hid (NumR b g n m s) := by
      obtain ⟨u, hu⟩ : ∃ u : ByteArray, InRad b m u := by
        rw [hm]
        refine ⟨⟨(digs b 1 1).reverse.toArray⟩, 1, ⟨by omega, ?_, fun i h1 h2 => by omega⟩, by simp⟩
        rw [Nat.pow_one]; exact Nat.div_eq_of_lt (by have := HR.out; omega)
      exact ⟨t, u, ht, hu, by rw [hs, if_pos hm, List.append_nil]⟩
    clear ht hs
    go_wp2
    go_ret
    exact ⟨s, rfl, HS.out, hB1.trans (hW2.mono (by omega))⟩
  · rw [decide_eq_false hm]
    go_wp2_with fail
    refine held_begin (fun w' => NumAt w' w.heap.size g k p j q) (by kernel_rfl) ?_
    have hS : NumAt w1.drew w.heap.size g k p j q := A1
    refine held_valS 0 (some 11) rfl rfl (by kernel_rfl) (by kernel_rfl) (by kernel_rfl) noPanic_put rfl (.pointer (some ⟨w.heap.size, 0, none⟩)) (fun _ _ => by go_simp) hS ?_
    simp only [Act.put, List.setIfInBounds_toArray, List.set_cons_zero, List.set_cons_succ]
    refine held_valS 1 (some 12) rfl rfl (by kernel_rfl) (by kernel_rfl) (by kernel_rfl) noPanic_put rfl (.agg (wholeC g k p)) (fun _ h => run_mid_whole _ rfl w.heap.size 0 rfl g k p h.whole hp) hS ?_
    simp only [Act.put, List.setIfInBounds_toArray, List.set_cons_zero, List.set_cons_succ]
    refine held_valS 2 (some 13) rfl rfl (by kernel_rfl) (by kernel_rfl) (by kernel_rfl) noPanic_put rfl (.int .i64 r) (fun _ _ => rfl) hS ?_
    simp only [Act.put, List.setIfInBounds_toArray, List.set_cons_zero, List.set_cons_succ]
    refine held_valS 5 (some 16) rfl rfl (by kernel_rfl) (by kernel_rfl) (by kernel_rfl) noPanic_put rfl (.pointer (some ⟨w.heap.size, 206, none⟩)) (fun _ _ => by go_simp) hS ?_
    simp only [Act.put, List.setIfInBounds_toArray, List.set_cons_zero, List.set_cons_succ]
    refine held_valS 6 (some 17) rfl rfl (by kernel_rfl) (by kernel_rfl) (by kernel_rfl) noPanic_put rfl (.agg (natC j q)) (fun _ h => run_mid_nat _ rfl w.heap.size 206 rfl j q (h.bottom hp) hq) hS ?_
    simp only [Act.put, List.setIfInBounds_toArray, List.set_cons_zero, List.set_cons_succ]
    refine held_valS 7 (some 18) rfl rfl (by kernel_rfl) (by kernel_rfl) (by kernel_rfl) noPanic_put rfl (.int .i64 r) (fun _ _ => rfl) hS ?_
    simp only [Act.put, List.setIfInBounds_toArray, List.set_cons_zero, List.set_cons_succ]
    have HT1' : Hid (Tab w1.drew.heap.size w1.drew) := (HT.out.on hB1.drew).up hB1.drew.size
    refine held_call 3 (some 14) (by kernel_rfl) rfl rfl rfl 42 #[.agg (wholeC g k p), .int .i64 r] (by go_simp) _ (wholeText_any g b r w1.drew HP.out hk HR.out hr0 hr1 HT1'.out) ?_
    rintro e w2 ⟨s, rfl, ⟨t, ht, hs⟩, hW2⟩
    have hW2 : Below w1.heap.size w1 w2 := ⟨hW2.os, hW2.tape, hW2.output, hW2.size, hW2.block⟩
    have hts := ht.size_le (by have := HR.out; omega) (HP.out.fits.1 hk)
    have hss : s.size ≤ 2401 := by
      have h1 : s.data.toList.length = s.size := by simp
      have h2 : t.data.toList.length = t.size := by simp
      rw [← h1, hs, List.length_append, h2]
      cases g <;> simp <;> omega
    have HS := hide (And.intro ht hs)
    clear ht hs
    have A2 : NumAt w2 w.heap.size g k p j q := A1.below hW2 (by omega)
    have hB2 : Below w.heap.size w w2 := hB1.trans (hW2.mono (by omega))
    have HT2 : Hid (Tab w2.heap.size w2) := (HT.out.on hB2).up hB2.size
    refine ⟨_, rfl, A2, ?_⟩
    simp only [Act.put, List.setIfInBounds_toArray, List.set_cons_zero, List.set_cons_succ]
    refine held_valS 4 (some 15) rfl rfl (by kernel_rfl) (by kernel_rfl) (by kernel_rfl) noPanic_put rfl (.string (s ++ ⟨#[47]⟩)) (fun _ _ => by go_simp; omega) A2 ?_
    simp only [Act.put, List.setIfInBounds_toArray, List.set_cons_zero, List.set_cons_succ]
    refine held_call 8 (some 19) (by kernel_rfl) rfl rfl rfl 43 #[.agg (natC j q), .int .i64 r] (by go_simp) _ (digits_any b r w2 HQ.out hj HR.out hr0 hr1 HT2.out) ?_
    rintro e w3 ⟨u, rfl, hu, hW3⟩
    have hus := hu.size_le (by have := HR.out; omega) (HQ.out.fits.1 hj)
    have A3 : NumAt w3 w.heap.size g k p j q := A2.below hW3 (by have := hW2.size; omega)
    have hB3 : Below w.heap.size w w3 := hB2.trans (hW3.mono hB2.size)
    refine ⟨_, rfl, A3, ?_⟩
    simp only [Act.put, List.setIfInBounds_toArray, List.set_cons_zero, List.set_cons_succ]
    have hsz : (s ++ (⟨#[47]⟩ : ByteArray)).size ≤ 2402 := by rw [ByteArray.size_append]; have : (⟨#[47]⟩ : ByteArray).size = 1 := rfl; omega
    refine held_valS 9 (some 20) rfl rfl (by kernel_rfl) (by kernel_rfl) (by kernel_rfl) noPanic_put rfl (.string (s ++ ⟨#[47]⟩ ++ u)) (fun _ _ => by go_simp; omega) A3 ?_
    simp only [Act.put, List.setIfInBounds_toArray, List.set_cons_zero, List.set_cons_succ]
    refine held_assign 10 (some 4) (by kernel_rfl) rfl rfl _ rfl rfl (.string (s ++ ⟨#[47]⟩ ++ u)) rfl A3 ?_
    simp only [Act.put, List.setIfInBounds_toArray, List.set_cons_zero, List.set_cons_succ]
    refine wpAnyH_done (by kernel_rfl) ?_ _
    refine NoPanic.normal ?_
    have HU := hide hu
    go_wp2
    go_ret
    refine ⟨_, rfl, ⟨t, u, HS.out.1, HU.out, ?_⟩, hB3⟩
    rw [if_neg hm, ByteArray.data_append, ByteArray.data_append, Array.toList_append, Array.toList_append, HS.out.2]
    simp

end Go.Proofs.YtjgpjafndaikcaaDoor

/-
  What tellNum of impl answers.
-/
namespace Go.Proofs.YtjgpjafndaikcaaDoor
open Go.RowKit
set_option linter.unusedVariables false

/-- It tells the fraction, where top and bottom are not too long. -/
def TellsN (g : Bool) (n m : Nat) (e : Ending) : Prop := ∃ s : ByteArray, e = .returned (.tuple #[.string s, .bool (decide (n < 10 ^ 600) && decide (m < 10 ^ 600))]) ∧ ((decide (n < 10 ^ 600) && decide (m < 10 ^ 600)) = true → NumR 10 g n m s) ∧ ((decide (n < 10 ^ 600) && decide (m < 10 ^ 600)) = false → s = ⟨#[]⟩)
theorem TellsN.same {g : Bool} {n m : Nat} {e e' : Ending} (h : TellsN g n m e) (h' : TellsN g n m e') : ∃ (s : ByteArray) (o : Bool), e = .returned (.tuple #[.string s, .bool o]) ∧ e' = .returned (.tuple #[.string s, .bool o]) := by
  obtain ⟨s, rfl, h1, h2⟩ := h
  obtain ⟨s', rfl, h1', h2'⟩ := h'
  have : s = s' := by
    cases hb : (decide (n < 10 ^ 600) && decide (m < 10 ^ 600)) with
    | true => exact (h1 hb).inj (h1' hb)
    | false => rw [h2 hb, h2' hb]
  subst this
  exact ⟨s, _, rfl, rfl⟩
theorem TellsN.yes {g : Bool} {n m : Nat} {s : ByteArray} (hn : n < 10 ^ 600) (hm : m < 10 ^ 600) (h : NumR 10 g n m s) : TellsN g n m (.returned (.tuple #[.string s, .bool true])) := by
  refine ⟨s, ?_, fun _ => h, fun hb => ?_⟩
  · rw [decide_eq_true hn, decide_eq_true hm]; rfl
  · rw [decide_eq_true hn, decide_eq_true hm] at hb; cases hb
theorem TellsN.no {g : Bool} {n m : Nat} (h : ¬ n < 10 ^ 600 ∨ ¬ m < 10 ^ 600) : TellsN g n m (.returned (.tuple #[.string ⟨#[]⟩, .bool false])) := by
  have hb : (decide (n < 10 ^ 600) && decide (m < 10 ^ 600)) = false := by
    rcases h with h | h
    · rw [decide_eq_false h]; rfl
    · rw [decide_eq_false h, Bool.and_false]
  refine ⟨⟨#[]⟩, by rw [hb], ?_, fun _ => rfl⟩
  intro h; rw [hb] at h; cases h

set_option maxHeartbeats 1000000 in
set_option maxRecDepth 100000 in
theorem numFits_any (g : Bool) (k j : Nat) (p q : List Int) (w : World) (hp : p.length = 204) (hq : q.length = 204) :
    Calls Tryd.prog 27 #[.agg (numC g k p j q)] w fun e w' => e = .returned (.bool (decide (k ≤ 100) && decide (j ≤ 100))) ∧ Below w.heap.size w w' := by
  have A := NumAt.new w g k p j q
  have hB : Below w.heap.size w (w.alloc (.cells (numC g k p j q) 42)) := (Below.refl _ _).alloc (Nat.le_refl _) _
  go_enter Tryd.func27, Tryd.ntmps27
  go_wp2_with (refine load_mid_nat rfl _ rfl w.heap.size 1 rfl k p A.size hp ?_)
  refine (fits_any k p _).mono ?_
  rintro e w1 ⟨rfl, hW1⟩
  have A1 : NumAt w1 w.heap.size g k p j q := A.below hW1 (by simp)
  have hB1 : Below w.heap.size w w1 := hB.trans (hW1.mono (by simp))
  have hs1 := hW1.size
  simp only [World.size_alloc] at hs1
  clear A hB hW1
  by_cases hk : k ≤ 100
  · rw [decide_eq_true hk]
    go_wp2_with fail
    refine wp_mid_nat _ rfl w.heap.size 206 rfl j q (A1.bottom hp) hq ?_
    go_wp2_with fail
    refine (fits_any j q _).mono ?_
    rintro e w2 ⟨rfl, hW2⟩
    have hB2 : Below w.heap.size w w2 := hB1.trans (hW2.mono (by omega))
    clear A1 hB1 hW2
    cases hd : decide (j ≤ 100) with
    | true =>
      have HD := hide hd
      clear hd
      go_wp2
      go_ret
      exact ⟨by rw [decide_eq_true hk, HD.out]; rfl, hB2⟩
    | false =>
      have HD := hide hd
      clear hd
      go_wp2
      go_ret
      exact ⟨by rw [decide_eq_true hk, HD.out]; rfl, hB2⟩
  · rw [decide_eq_false hk]
    go_wp2
    go_ret
    exact ⟨by rw [decide_eq_false hk]; rfl, hB1⟩

set_option maxHeartbeats 1000000 in
set_option maxRecDepth 100000 in
theorem tellNum_any {n m k j : Nat} {p q : List Int} (g : Bool) (w : World) (hP : Rep n k p) (hQ : Rep m j q) (hT : Tab w.heap.size w) :
    Calls Tryd.prog 17 #[.agg (numC g k p j q)] w fun e w' => TellsN g n m e ∧ Below w.heap.size w w' := by
  have hz := zero_nat.1
  have hz1 := zero_whole.1
  have hp := hP.len
  have hq := hQ.len
  have A := NumAt.new w g k p j q
  have hB : Below w.heap.size w (w.alloc (.cells (numC g k p j q) 42)) := (Below.refl _ _).alloc (Nat.le_refl _) _
  have HT := hide hT
  have HP := hide hP
  have HQ := hide hQ
  clear hP hQ hT
  go_enter Tryd.func17, Tryd.ntmps17
  go_wp2_with (refine load_num rfl _ rfl w.heap.size rfl g k p j q A hp hq ?_)
  refine (numFits_any g k j p q _ hp hq).mono ?_
  rintro e w2 ⟨rfl, hW1⟩
  have A2 : NumAt w2 w.heap.size g k p j q := A.below hW1 (by simp)
  have hB2 : Below w.heap.size w w2 := hB.trans (hW1.mono (by simp))
  have HT2 : Hid (Tab w2.heap.size w2) := (HT.out.on hB2).up hB2.size
  clear A hB hW1
  by_cases hk : k ≤ 100
  · by_cases hj : j ≤ 100
    · rw [decide_eq_true hj, decide_eq_true hk]
      go_wp2_with (refine load_num rfl _ rfl w.heap.size rfl g k p j q A2 hp hq ?_)
      refine (numText_any g 10 10 w2 HP.out HQ.out hk hj rfl (by omega) (by omega) HT2.out).mono ?_
      rintro e w3 ⟨s, rfl, hN, hW3⟩
      have HN := hide (TellsN.yes (HP.out.fits.1 hk) (HQ.out.fits.1 hj) hN)
      clear hN
      go_wp2
      go_ret2
      exact ⟨HN.out, hB2.trans (hW3.mono hB2.size)⟩
    · rw [decide_eq_false hj, Bool.and_false]
      have HN := hide (TellsN.no (g := g) (n := n) (m := m) (.inr (fun h => hj (HQ.out.fits.2 h))))
      go_wp2
      go_ret2
      exact ⟨HN.out, hB2⟩
  · rw [decide_eq_false hk, Bool.false_and]
    have HN := hide (TellsN.no (g := g) (n := n) (m := m) (.inl (fun h => hk (HP.out.fits.2 h))))
    go_wp2
    go_ret2
    exact ⟨HN.out, hB2⟩
end Go.Proofs.YtjgpjafndaikcaaDoor

/-
  What impl.AddNat answers.
-/
namespace Go.Proofs.YtjgpjafndaikcaaDoor
open Go.RowKit
set_option linter.unusedVariables false

theorem Rep.small {n k : Nat} {p : List Int} (h : Rep n k p) (hn : n < 10 ^ 600) : k ≤ 100 := h.fits.2 hn

end Go.Proofs.YtjgpjafndaikcaaDoor

/-
  What impl.MakeNum answers.
-/
namespace Go.Proofs.YtjgpjafndaikcaaDoor
open Go.RowKit
set_option linter.unusedVariables false

/-- What MakeNum should answer. -/
def makeOk (a b : ByteArray) : Bool := (goodB a.data.toList && goodB b.data.toList) && decide (dval b.data.toList ≠ 0)
def MakeAns (g : Bool) (a b : ByteArray) (e : Ending) : Prop :=
  (makeOk a b = true ∧ TellsN (g && decide (dval a.data.toList ≠ 0)) (dval a.data.toList / Nat.gcd (dval a.data.toList) (dval b.data.toList)) (dval b.data.toList / Nat.gcd (dval a.data.toList) (dval b.data.toList)) e) ∨ (makeOk a b = false ∧ Mute e)
theorem MakeAns.same {g : Bool} {a b : ByteArray} {e e' : Ending} (h : MakeAns g a b e) (h' : MakeAns g a b e') : ∃ (s : ByteArray) (o : Bool), e = .returned (.tuple #[.string s, .bool o]) ∧ e' = .returned (.tuple #[.string s, .bool o]) := by
  rcases h with ⟨g1, h⟩ | ⟨g1, h⟩ <;> rcases h' with ⟨g2, h'⟩ | ⟨g2, h'⟩
  · exact h.same h'
  · rw [g1] at g2; cases g2
  · rw [g1] at g2; cases g2
  · exact h.same h'

end Go.Proofs.YtjgpjafndaikcaaDoor

/-
  What spec.l2Make and spec.MakeNum answer.
-/
namespace Go.Proofs.YtjgpjafndaikcaaDoor
open Go.RowKit
set_option linter.unusedVariables false

theorem one_lt (k : Nat) (hk : k ≠ 0) : 1 < 10 ^ k := Nat.one_lt_pow hk (by decide)

theorem make_tells {g : Bool} {a b t u s : ByteArray} {G : Nat} (h0 : dval a.data.toList ≠ 0) (hC : canonB t.data.toList = true ∧ dval t.data.toList = dval a.data.toList / G ∧ canonB u.data.toList = true ∧ dval u.data.toList = dval b.data.toList / G) (h1 : t.size ≤ 600) (h2 : u.size ≤ 600)
    (h : s.data.toList = (if g then [45] else []) ++ t.data.toList ++ (if dval b.data.toList / G = 1 then [] else 47 :: u.data.toList)) : TellsN (g && decide (dval a.data.toList ≠ 0)) (dval a.data.toList / G) (dval b.data.toList / G) (.returned (.tuple #[.string s, .bool true])) := by
  rw [decide_eq_true h0, Bool.and_true]
  refine TellsN.yes ?_ ?_ ⟨t, u, InRad.dec hC.1 hC.2.1, InRad.dec hC.2.2.1 hC.2.2.2, h⟩
  · rw [← hC.2.1]; exact (canon_len_le hC.1 600 (by omega)).1 (by simpa using h1)
  · rw [← hC.2.2.2]; exact (canon_len_le hC.2.2.1 600 (by omega)).1 (by simpa using h2)

set_option maxHeartbeats 1000000 in
set_option maxRecDepth 100000 in
theorem l2Make_any (g : Bool) (a b : ByteArray) (w : World) (hsa : a.size ≤ 2000) (hsb : b.size ≤ 2000) (ha : canonB a.data.toList = true) (hb : canonB b.data.toList = true) (hb0 : dval b.data.toList ≠ 0) :
    Calls Tryd.prog 22 #[.bool g, .string a, .string b] w fun e w' => TellsN (g && decide (dval a.data.toList ≠ 0)) (dval a.data.toList / Nat.gcd (dval a.data.toList) (dval b.data.toList)) (dval b.data.toList / Nat.gcd (dval a.data.toList) (dval b.data.toList)) e ∧ Below w.heap.size w w' := by
  have HA := hideT ha
  have HB := hideT hb
  have HB0 := hideT hb0
  by_cases hz : a = ⟨#[48]⟩
  · have h0 : dval a.data.toList = 0 := by rw [hz]; decide
    have HN : Hid (TellsN (g && decide (dval a.data.toList ≠ 0)) (dval a.data.toList / Nat.gcd (dval a.data.toList) (dval b.data.toList)) (dval b.data.toList / Nat.gcd (dval a.data.toList) (dval b.data.toList)) (.returned (.tuple #[.string ⟨#[48]⟩, .bool true]))) := by
      unfold Hid
      rw [h0, Nat.gcd_zero_left, Nat.zero_div, Nat.div_self (Nat.pos_of_ne_zero hb0), decide_eq_false (by simp), Bool.and_false]
      refine TellsN.yes (Nat.lt_trans (by decide) (one_lt 600 (by decide))) (one_lt 600 (by decide)) ⟨⟨#[48]⟩, ⟨#[49]⟩, InRad.dec (by decide) (by decide), InRad.dec (by decide) (by decide), by simp⟩
    subst hz
    clear ha hb hb0 h0
    go_enter Tryd.func22, Tryd.ntmps22
    go_wp2
    go_ret2
    exact ⟨HN.out, Below.refl _ _⟩
  · have hz' : (a.toList == [48]) = false := str_ne (fun h => hz (WideShapes.bytes_inj h))
    have HT0 : Hid (dval a.data.toList ≠ 0) := fun e => hz (WideShapes.bytes_inj ((canon_zero HA.out).1 e))
    obtain ⟨G, hG⟩ : ∃ G, G = Nat.gcd (dval a.data.toList) (dval b.data.toList) := ⟨_, rfl⟩
    rw [← hG]
    have HG := hideT hG
    have HG0 : Hid (G ≠ 0) := by
      have := Nat.gcd_pos_of_pos_right (dval a.data.toList) (Nat.pos_of_ne_zero hb0)
      unfold Hid; omega
    clear hz ha hb hb0 hG
    go_enter Tryd.func22, Tryd.ntmps22
    go_wp2_with fail
    refine (l1Gcd_any a b w hsa hsb HA.out HB.out).mono ?_
    rintro e w1 ⟨c, rfl, hc, hv, hW⟩
    rw [← HG.out] at hv
    have HCC := hideT (And.intro hc hv)
    have hcs : c.size ≤ 2000 := by
      have hle : dval c.data.toList ≤ dval b.data.toList := by rw [hv, HG.out]; exact Nat.gcd_le_right _ (Nat.pos_of_ne_zero HB0.out)
      have := canon_le_size HB.out hc hle; omega
    clear hc hv
    by_cases hc1 : c.data.toList = [49]
    · have hc1' : (c.toList == [49]) = true := str_eq hc1
      have hG1 : G = 1 := by rw [← HCC.out.2]; exact (canon_one HCC.out.1).2 hc1
      clear hc1
      have HC : Hid (canonB a.data.toList = true ∧ dval a.data.toList = dval a.data.toList / G ∧ canonB b.data.toList = true ∧ dval b.data.toList = dval b.data.toList / G) := by
        unfold Hid; rw [hG1, Nat.div_one, Nat.div_one]; exact ⟨HA.out, rfl, HB.out, rfl⟩
      clear hG1
      by_cases hl1 : (600 : Int) < (a.size : Int)
      · have HN : Hid (TellsN (g && decide (dval a.data.toList ≠ 0)) (dval a.data.toList / G) (dval b.data.toList / G) (.returned (.tuple #[.string ⟨#[]⟩, .bool false]))) := TellsN.no (.inl (fun h => by
          rw [← HC.out.2.1] at h
          have := (canon_len_le HC.out.1 600 (by omega)).2 h
          simp at this; omega))
        go_wp2
        go_ret2
        exact ⟨HN.out, hW⟩
      · by_cases hl2 : (600 : Int) < (b.size : Int)
        · have HN : Hid (TellsN (g && decide (dval a.data.toList ≠ 0)) (dval a.data.toList / G) (dval b.data.toList / G) (.returned (.tuple #[.string ⟨#[]⟩, .bool false]))) := TellsN.no (.inr (fun h => by
            rw [← HC.out.2.2.2] at h
            have := (canon_len_le HC.out.2.2.1 600 (by omega)).2 h
            simp at this; omega))
          go_wp2
          go_ret2
          exact ⟨HN.out, hW⟩
        · have HY := fun (s : ByteArray) (h : s.data.toList = (if g then [45] else []) ++ a.data.toList ++ (if dval b.data.toList / G = 1 then [] else 47 :: b.data.toList)) => make_tells (s := s) (g := g) HT0.out HC.out (by omega) (by omega) h
          have HY' := hideT HY
          clear HY
          have hb1 : Hid (dval b.data.toList / G = 1 ↔ b.data.toList = [49]) := by unfold Hid; rw [← HC.out.2.2.2]; exact canon_one HC.out.2.2.1
          by_cases hu1 : b.data.toList = [49]
          · have hu1' : (b.toList == [49]) = true := str_eq hu1
            have HI : Hid (dval b.data.toList / G = 1) := hb1.out.2 hu1
            clear hu1
            cases g with
            | true =>
              go_wp2
              go_ret2
              exact ⟨HY'.out _ (by rw [if_pos HI.out]; simp [ByteArray.data_append]), hW⟩
            | false =>
              go_wp2
              go_ret2
              exact ⟨HY'.out _ (by rw [if_pos HI.out]; simp), hW⟩
          · have hu1' : (b.toList == [49]) = false := str_ne hu1
            have HI : Hid (¬ dval b.data.toList / G = 1) := fun e => hu1 (hb1.out.1 e)
            clear hu1
            cases g with
            | true =>
              go_wp2
              go_ret2
              exact ⟨HY'.out _ (by rw [if_neg HI.out]; simp [ByteArray.data_append]), hW⟩
            | false =>
              go_wp2
              go_ret2
              exact ⟨HY'.out _ (by rw [if_neg HI.out]; simp [ByteArray.data_append]), hW⟩
    · have hc1' : (c.toList == [49]) = false := str_ne hc1
      have hcz : Hid (dval c.data.toList ≠ 0) := by unfold Hid; rw [HCC.out.2]; exact HG0.out
      clear hc1
      go_wp2_with fail
      refine (l1Div_any a c w1 hsa hcs HA.out HCC.out.1 hcz.out).mono ?_
      rintro e w2 ⟨t, t', rfl, hc2, hv2, _, _, hW2⟩
      rw [HCC.out.2] at hv2
      have HC2 := hideT (And.intro hc2 hv2)
      have hts : t.size ≤ 2000 := by have := canon_le_size HA.out hc2 (by rw [hv2]; exact Nat.div_le_self _ _); omega
      have hW2' : Below w.heap.size w w2 := hW.trans (hW2.mono hW.size)
      clear hc2 hv2 hW hW2
      go_wp2_with fail
      refine (l1Div_any b c w2 hsb hcs HB.out HCC.out.1 hcz.out).mono ?_
      rintro e w3 ⟨u, u', rfl, hc3, hv3, _, _, hW3⟩
      rw [HCC.out.2] at hv3
      have hus : u.size ≤ 2000 := by have := canon_le_size HB.out hc3 (by rw [hv3]; exact Nat.div_le_self _ _); omega
      have HC : Hid (canonB t.data.toList = true ∧ dval t.data.toList = dval a.data.toList / G ∧ canonB u.data.toList = true ∧ dval u.data.toList = dval b.data.toList / G) := ⟨HC2.out.1, HC2.out.2, hc3, hv3⟩
      have hW : Below w.heap.size w w3 := hW2'.trans (hW3.mono hW2'.size)
      clear hc3 hv3 hW2' hW3
      by_cases hl1 : (600 : Int) < (t.size : Int)
      · have HN : Hid (TellsN (g && decide (dval a.data.toList ≠ 0)) (dval a.data.toList / G) (dval b.data.toList / G) (.returned (.tuple #[.string ⟨#[]⟩, .bool false]))) := TellsN.no (.inl (fun h => by
          rw [← HC.out.2.1] at h
          have := (canon_len_le HC.out.1 600 (by omega)).2 h
          simp at this; omega))
        go_wp2
        go_ret2
        exact ⟨HN.out, hW⟩
      · by_cases hl2 : (600 : Int) < (u.size : Int)
        · have HN : Hid (TellsN (g && decide (dval a.data.toList ≠ 0)) (dval a.data.toList / G) (dval b.data.toList / G) (.returned (.tuple #[.string ⟨#[]⟩, .bool false]))) := TellsN.no (.inr (fun h => by
            rw [← HC.out.2.2.2] at h
            have := (canon_len_le HC.out.2.2.1 600 (by omega)).2 h
            simp at this; omega))
          go_wp2
          go_ret2
          exact ⟨HN.out, hW⟩
        · have HY := fun (s : ByteArray) (h : s.data.toList = (if g then [45] else []) ++ t.data.toList ++ (if dval b.data.toList / G = 1 then [] else 47 :: u.data.toList)) => make_tells (s := s) (g := g) HT0.out HC.out (by omega) (by omega) h
          have HY' := hideT HY
          clear HY
          have hb1 : Hid (dval b.data.toList / G = 1 ↔ u.data.toList = [49]) := by unfold Hid; rw [← HC.out.2.2.2]; exact canon_one HC.out.2.2.1
          by_cases hu1 : u.data.toList = [49]
          · have hu1' : (u.toList == [49]) = true := str_eq hu1
            have HI : Hid (dval b.data.toList / G = 1) := hb1.out.2 hu1
            clear hu1
            cases g with
            | true =>
              go_wp2
              go_ret2
              exact ⟨HY'.out _ (by rw [if_pos HI.out]; simp [ByteArray.data_append]), hW⟩
            | false =>
              go_wp2
              go_ret2
              exact ⟨HY'.out _ (by rw [if_pos HI.out]; simp), hW⟩
          · have hu1' : (u.toList == [49]) = false := str_ne hu1
            have HI : Hid (¬ dval b.data.toList / G = 1) := fun e => hu1 (hb1.out.1 e)
            clear hu1
            cases g with
            | true =>
              go_wp2
              go_ret2
              exact ⟨HY'.out _ (by rw [if_neg HI.out]; simp [ByteArray.data_append]), hW⟩
            | false =>
              go_wp2
              go_ret2
              exact ⟨HY'.out _ (by rw [if_neg HI.out]; simp [ByteArray.data_append]), hW⟩

end Go.Proofs.YtjgpjafndaikcaaDoor

/-
  What spec.l2Cut, spec.l2Read and spec.ReadNum answer.
-/
namespace Go.Proofs.YtjgpjafndaikcaaDoor
open Go.RowKit
set_option linter.unusedVariables false

set_option maxHeartbeats 1000000 in
set_option maxRecDepth 100000 in
theorem l2Cut_any (s : ByteArray) (w : World) (hs : s.size ≤ maxLen) :
    Calls Tryd.prog 20 #[.string s, .int .u8 47] w fun e w' => (∃ t u : ByteArray, e = .returned (.tuple #[.string t, .string u, .bool (cut47 s.data.toList).2.2]) ∧ t.data.toList = (cut47 s.data.toList).1 ∧ u.data.toList = (cut47 s.data.toList).2.1) ∧ Below w.heap.size w w' := by
  unfold maxLen at hs
  have hs' : (s.size : Int) ≤ 9223372036854775807 := by omega
  go_enter Tryd.func20, Tryd.ntmps20
  go_wp2_with fail
  go_loopg [7] s.size (fun g i wr => ∃ k : Nat, g = s.size - k ∧ k ≤ s.size ∧ i = .int .i64 (k : Int) ∧ Hid (∀ j, j < k → s.data.toList[j]? ≠ some 47) ∧ wr = w)
  case atStart => exact ⟨0, rfl, Nat.zero_le _, rfl, fun j hj => by omega, rfl⟩
  case round =>
    obtain ⟨k, hg, hk, rfl, HK, rfl⟩ := hrel
    by_cases hlt : k < s.size
    · have hlt' : (k : Int) < (s.size : Int) := by omega
      by_cases h47 : s[k] = 47
      · have h47' : (s[k].toNat : Int) = 47 := by rw [h47]; rfl
        have hc := cut47_some s.data.toList k (by rw [getN k hlt, h47]) HK.out
        obtain ⟨k1, hk1⟩ : ∃ k1, k1 = k + 1 := ⟨_, rfl⟩
        have hwk : IntKind.i64.wrap ((k : Int) + 1) = (k1 : Int) := by rw [IntKind.wrap_i64]; omega
        have hk1' : (k1 : Int) ≤ (s.size : Int) := by omega
        have hk' : (k : Int) ≤ (s.size : Int) := by omega
        have HC : Hid ((s.extract 0 k).data.toList = (cut47 s.data.toList).1 ∧ (s.extract k1 s.size).data.toList = (cut47 s.data.toList).2.1 ∧ (cut47 s.data.toList).2.2 = true) := by
          unfold Hid
          rw [hc, ext_head, ext_tail, hk1]; exact ⟨rfl, rfl, rfl⟩
        clear hc hk1 h47
        go_wp2_with fail
        refine held_begin0 (by kernel_rfl) ?_
        refine held_val0 0 (some 19) rfl rfl (by kernel_rfl) (by kernel_rfl) (by kernel_rfl) rfl (.string s) (fun _ => rfl) ?_
        simp only [Act.put, List.setIfInBounds_toArray, List.set_cons_zero, List.set_cons_succ]
        refine held_val0 1 (some 20) rfl rfl (by kernel_rfl) (by kernel_rfl) (by kernel_rfl) rfl (.int .i64 (k : Int)) (fun _ => rfl) ?_
        simp only [Act.put, List.setIfInBounds_toArray, List.set_cons_zero, List.set_cons_succ]
        refine held_val0 2 (some 21) rfl rfl (by kernel_rfl) (by kernel_rfl) (by kernel_rfl) rfl (.string (s.extract 0 k)) (fun _ => by go_simp) ?_
        simp only [Act.put, List.setIfInBounds_toArray, List.set_cons_zero, List.set_cons_succ]
        refine held_val0 3 (some 22) rfl rfl (by kernel_rfl) (by kernel_rfl) (by kernel_rfl) rfl (.string s) (fun _ => rfl) ?_
        simp only [Act.put, List.setIfInBounds_toArray, List.set_cons_zero, List.set_cons_succ]
        refine held_val0 4 (some 23) rfl rfl (by kernel_rfl) (by kernel_rfl) (by kernel_rfl) rfl (.int .i64 (k : Int)) (fun _ => rfl) ?_
        simp only [Act.put, List.setIfInBounds_toArray, List.set_cons_zero, List.set_cons_succ]
        refine held_val0 5 (some 24) rfl rfl (by kernel_rfl) (by kernel_rfl) (by kernel_rfl) rfl (.int .i64 (k1 : Int)) (fun _ => by go_simp) ?_
        simp only [Act.put, List.setIfInBounds_toArray, List.set_cons_zero, List.set_cons_succ]
        refine held_val0 6 (some 25) rfl rfl (by kernel_rfl) (by kernel_rfl) (by kernel_rfl) rfl (.string (s.extract k1 s.size)) (fun _ => by go_simp) ?_
        simp only [Act.put, List.setIfInBounds_toArray, List.set_cons_zero, List.set_cons_succ]
        refine held_assign0 7 (some 4) (by kernel_rfl) rfl rfl _ rfl rfl (.string (s.extract 0 k)) rfl ?_
        simp only [Act.put, List.setIfInBounds_toArray, List.set_cons_zero, List.set_cons_succ]
        refine held_assign0 8 (some 5) (by kernel_rfl) rfl rfl _ rfl rfl (.string (s.extract k1 s.size)) rfl ?_
        simp only [Act.put, List.setIfInBounds_toArray, List.set_cons_zero, List.set_cons_succ]
        refine held_assign0 9 (some 6) (by kernel_rfl) rfl rfl _ rfl rfl (.bool true) rfl ?_
        simp only [Act.put, List.setIfInBounds_toArray, List.set_cons_zero, List.set_cons_succ]
        refine wpAnyH_done (by kernel_rfl) ?_ _
        refine NoPanic.normal ?_
        go_wp2
        (try simp only [Exit.inBlock, Exit.then]); refine bodyPost_ret (results_tmp3 rfl _ _ _) rfl ?_
        exact ⟨⟨_, _, by rw [HC.out.2.2]; rfl, HC.out.1, HC.out.2.1⟩, (Below.refl _ _).drew⟩
      · have h47' : ((s[k].toNat : Int) == 47) = false := by
          rw [beq_eq_false_iff_ne]
          intro e; apply h47; exact UInt8.toNat_inj.1 (by simpa using (by omega : s[k].toNat = 47))
        have HK2 : Hid (∀ j, j < k + 1 → s.data.toList[j]? ≠ some 47) := by
          intro j hj
          by_cases e : j = k
          · subst e; rw [getN j hlt]; intro h; exact h47 (by injection h)
          · exact HK.out j (by omega)
        clear h47
        go_wp2
        go_roundg (s.size - (k + 1))
        case measure => omega
        case rel => exact ⟨k + 1, rfl, by omega, by go_num, HK2, rfl⟩
    · have hc := cut47_none s.data.toList (fun j => by
        by_cases hj : j < s.size
        · exact HK.out j (by omega)
        · rw [List.getElem?_eq_none (by simp; omega)]; simp)
      have HA : Hid (s.data.toList = (cut47 s.data.toList).1 ∧ (⟨#[]⟩ : ByteArray).data.toList = (cut47 s.data.toList).2.1 ∧ (cut47 s.data.toList).2.2 = false) := by
        unfold Hid; rw [hc]; exact ⟨rfl, rfl, rfl⟩
      clear hc
      have hlt' : ¬ (k : Int) < (s.size : Int) := by omega
      go_wp2
      go_ret3
      exact ⟨⟨_, _, by rw [HA.out.2.2]; rfl, HA.out.1, HA.out.2.1⟩, Below.refl _ _⟩

/-- What ReadNum should answer. -/
def ReadAns (s : ByteArray) (e : Ending) : Prop :=
  (rdOkN s.data.toList = true ∧ TellsN (rdNeg s.data.toList && decide (rval (rdRad s.data.toList) (rdTop s.data.toList) ≠ 0)) (rval (rdRad s.data.toList) (rdTop s.data.toList) / Nat.gcd (rval (rdRad s.data.toList) (rdTop s.data.toList)) (rval (rdRad s.data.toList) (rdBot s.data.toList))) (rval (rdRad s.data.toList) (rdBot s.data.toList) / Nat.gcd (rval (rdRad s.data.toList) (rdTop s.data.toList)) (rval (rdRad s.data.toList) (rdBot s.data.toList))) e) ∨ (rdOkN s.data.toList = false ∧ Mute e)
theorem ReadAns.same {s : ByteArray} {e e' : Ending} (h : ReadAns s e) (h' : ReadAns s e') : ∃ (t : ByteArray) (o : Bool), e = .returned (.tuple #[.string t, .bool o]) ∧ e' = .returned (.tuple #[.string t, .bool o]) := by
  rcases h with ⟨g1, h⟩ | ⟨g1, h⟩ <;> rcases h' with ⟨g2, h'⟩ | ⟨g2, h'⟩
  · exact h.same h'
  · rw [g1] at g2; cases g2
  · rw [g1] at g2; cases g2
  · exact h.same h'

theorem byte_ne {c : UInt8} {n : Nat} (hn : n < 256) (h : c ≠ UInt8.ofNat n) : ((c.toNat : Int) == (n : Int)) = false := by
  rw [beq_eq_false_iff_ne]
  intro e
  apply h
  have : c.toNat = n := by omega
  rw [← this]; simp
theorem radN_of {s : ByteArray} (h : 1 < s.size) : radN s.data.toList = if s[0] = 35 then (letR s[1], s.data.toList.drop 2) else (10, s.data.toList) := by
  have h0 := getN 0 (t := s) (by omega)
  have h1 := getN 1 (t := s) (by omega)
  generalize s.data.toList = l at h0 h1 ⊢
  match l, h0, h1 with
  | a :: c :: t, h0, h1 =>
    simp at h0 h1
    subst h0 h1
    rfl
theorem sigN_of {s : ByteArray} (h : 0 < s.size) : sigN s.data.toList = if s[0] = 45 then (true, s.data.toList.drop 1) else if s[0] = 43 then (false, s.data.toList.drop 1) else (false, s.data.toList) := by
  have h0 := getN 0 (t := s) (by omega)
  generalize s.data.toList = l at h0 ⊢
  match l, h0 with
  | a :: t, h0 =>
    simp at h0
    subst h0
    rfl
theorem sigN_none {s : ByteArray} (h : ¬ 0 < s.size) : sigN s.data.toList = (false, s.data.toList) := by
  have h1 : s.data.toList.length = s.size := by simp
  have : s.data.toList = [] := List.length_eq_zero_iff.1 (by omega)
  rw [this]; rfl

theorem rdDig_eq {b : Nat} {o : ByteArray} (h : o.size ≤ 600) : rdDig b o.data.toList = (decide (0 < o.size) && rdigs b o.data.toList) := by
  have hl : o.data.toList.length = o.size := by simp
  unfold rdDig
  rw [hl, decide_eq_true h, Bool.and_true]
theorem rdDig_long {b : Nat} {o : ByteArray} (h : ¬ o.size ≤ 600) : rdDig b o.data.toList = false := by
  have hl : o.data.toList.length = o.size := by simp
  unfold rdDig
  rw [hl, decide_eq_false h]; simp
theorem rdDig_digs {b : Nat} {l : List UInt8} (h : rdDig b l = true) : rdigs b l = true := by
  unfold rdDig at h
  simp only [Bool.and_eq_true] at h
  exact h.2
theorem rad_pow {b k : Nat} (hb : b ≤ 16) : b ^ k ≤ 10 ^ (2 * k) := by
  rw [Nat.pow_mul]
  exact Nat.pow_le_pow_left (by omega) k
theorem rad_sizeK (K : Nat) (hK : 1 ≤ K) {b : Nat} {o t : ByteArray} (hb : b ≤ 16) (ho : o.size ≤ K) (hd : rdigs b o.data.toList = true) (hc : canonB t.data.toList = true) (hv : dval t.data.toList = rval b o.data.toList) : t.size ≤ 2 * K := by
  have hl : o.data.toList.length = o.size := by simp
  have h1 := rval_lt b o.data.toList hd
  rw [hl, ← hv] at h1
  have h2 : 10 ^ (2 * o.size) ≤ 10 ^ (2 * K) := Nat.pow_le_pow_right (by decide) (by omega)
  have h3 := Nat.lt_of_lt_of_le h1 (Nat.le_trans (rad_pow hb) h2)
  have h4 := (canon_len_le hc (2 * K) (by omega)).2 h3
  simpa using h4
theorem rad_size {b : Nat} {o t : ByteArray} (hb : b ≤ 16) (ho : o.size ≤ 600) (hd : rdigs b o.data.toList = true) (hc : canonB t.data.toList = true) (hv : dval t.data.toList = rval b o.data.toList) : t.size ≤ 1200 := rad_sizeK 600 (by decide) hb ho hd hc hv
theorem TellsN.form3 {g : Bool} {n m : Nat} {e : Ending} (h : TellsN g n m e) : ∃ (s : ByteArray) (o : Bool), e = .returned (.tuple #[.string s, .bool o]) := by
  obtain ⟨s, rfl, _, _⟩ := h
  exact ⟨s, _, rfl⟩

/-- Whether a radix's sign stands at the front. -/
def hsh (s : ByteArray) : Bool := decide (1 < s.size) && s.data.toList.head? == some 35
theorem hsh_of {s : ByteArray} (h : 1 < s.size) : hsh s = (s[0] == 35) := by
  unfold hsh
  rw [decide_eq_true h, List.head?_eq_getElem?, getN 0 (by omega)]; rfl
theorem hsh_no {s : ByteArray} (h : hsh s = false) : radN s.data.toList = (10, s.data.toList) := by
  by_cases h1 : 1 < s.size
  · rw [hsh_of h1] at h
    rw [radN_of h1, if_neg (by simpa using h)]
  · exact radN_short (by have : s.data.toList.length = s.size := by simp
                         omega)
theorem hsh_yes {s : ByteArray} (h : hsh s = true) : 1 < s.size ∧ radN s.data.toList = (letR (s.data.toList.getD 1 0), s.data.toList.drop 2) := by
  have h1 : 1 < s.size := by unfold hsh at h; simp at h; omega
  rw [hsh_of h1] at h
  refine ⟨h1, ?_⟩
  rw [radN_of h1, if_pos (by simpa using h)]
  simp [List.getD, getN 1 h1]

/-- Whether a sign stands at the front. -/
def sgd (s : ByteArray) : Bool := decide (0 < s.size) && (s.data.toList.head? == some 43 || s.data.toList.head? == some 45)
theorem sgd_of {s : ByteArray} (h : 0 < s.size) : sgd s = (s[0] == 43 || s[0] == 45) := by
  unfold sgd
  rw [decide_eq_true h, List.head?_eq_getElem?, getN 0 h]; rfl
theorem sgd_no {s : ByteArray} (h : sgd s = false) : sigN s.data.toList = (false, s.data.toList) := by
  by_cases h1 : 0 < s.size
  · rw [sgd_of h1] at h
    simp at h
    rw [sigN_of h1, if_neg h.2, if_neg h.1]
  · exact sigN_none h1
theorem sgd_yes {s : ByteArray} (h : sgd s = true) : ∃ h0 : 0 < s.size, sigN s.data.toList = (s[0] == 45, s.data.toList.drop 1) := by
  have h1 : 0 < s.size := by
    by_cases h0 : 0 < s.size
    · exact h0
    · unfold sgd at h; rw [decide_eq_false h0] at h; cases h
  refine ⟨h1, ?_⟩
  rw [sgd_of h1] at h
  rw [sigN_of h1]
  by_cases h45 : s[0] = 45
  · rw [if_pos h45, h45]; rfl
  · rw [if_neg h45]
    have h43 : s[0] = 43 := by simp [h45] at h; exact h
    rw [if_pos h43, h43]; rfl

set_option maxHeartbeats 1000000 in
set_option maxRecDepth 100000 in
theorem l2Read_any (s : ByteArray) (w : World) (hs : s.size ≤ maxLen) :
    Calls Tryd.prog 10 #[.string s] w fun e w' => ReadAns s e ∧ Below w.heap.size w w' := by
  unfold maxLen at hs
  go_enter Tryd.func10, Tryd.ntmps10
  go_upto_region 2 with fail
  go_cut [20] (fun x wx => x = .bool (hsh s) ∧ wx = w)
  case first =>
    by_cases h1 : 1 < s.size
    · have h1' : (1 : Int) < (s.size : Int) := by omega
      have h0 : 0 < s.size := by omega
      cases h35 : (s[0] == 35) with
      | true =>
        have HH : Hid (hsh s = true) := by unfold Hid; rw [hsh_of h1]; exact h35
        have h35' : s[0].toNat = 35 := by rw [eq_of_beq h35]; rfl
        clear h35
        go_wp2
        go_meet
        case rel => exact ⟨by rw [HH.out], rfl⟩
      | false =>
        have HH : Hid (hsh s = false) := by unfold Hid; rw [hsh_of h1]; exact h35
        have h35' : ((s[0].toNat : Int) == 35) = false := byte_ne (n := 35) (by decide) (by simpa using h35)
        clear h35
        go_wp2
        go_meet
        case rel => exact ⟨by rw [HH.out], rfl⟩
    · have HH : Hid (hsh s = false) := by unfold Hid hsh; rw [decide_eq_false h1]; rfl
      have h1' : ¬ (1 : Int) < (s.size : Int) := by omega
      go_wp2
      go_meet
      case rel => exact ⟨by rw [HH.out], rfl⟩
  case rest =>
    obtain ⟨rfl, rfl⟩ := hcut
    obtain ⟨hh, hhd⟩ : ∃ hh, hh = hsh s := ⟨_, rfl⟩
    rw [← hhd]
    have HH := hideT' hhd
    clear hhd
    go_upto_if 20 with fail
    go_cut [0, 4] (fun x y wx => ∃ (t : ByteArray) (b : Nat) (r : Int), x = .string t ∧ y = .int .i64 r ∧ r = (b : Int) ∧ 2 ≤ r ∧ r ≤ 16 ∧ Hid (radN s.data.toList = (b, t.data.toList)) ∧ t.size ≤ s.size ∧ wx = wc)
    case first =>
      cases hh with
      | true =>
        obtain ⟨h1, hr⟩ := hsh_yes HH.out.symm
        have h1' : (1 : Int) < (s.size : Int) := by omega
        have h2' : (2 : Int) ≤ (s.size : Int) := by omega
        have HR : Hid (radN s.data.toList = (letR s[1], s.data.toList.drop 2)) := by
          unfold Hid; rw [hr]; simp [List.getD, getN 1 h1]
        clear hr
        by_cases h120 : s[1] = 120
        · have hl : letR s[1] = 16 := by rw [h120]; rfl
          have hb : (s[1].toNat : Int) = 120 := by rw [h120]; rfl
          have HX : Hid (radN s.data.toList = (16, (s.extract 2 s.size).data.toList)) := by unfold Hid; rw [HR.out, hl, ext_tail]
          clear h120 hl
          go_wp2
          go_meet
          case rel => exact ⟨s.extract 2 s.size, 16, 16, rfl, rfl, rfl, by omega, by omega, HX, by simp, rfl⟩
        · have n120 : ((s[1].toNat : Int) == 120) = false := byte_ne (n := 120) (by decide) h120
          by_cases h111 : s[1] = 111
          · have hl : letR s[1] = 8 := by rw [h111]; rfl
            have hb : (s[1].toNat : Int) = 111 := by rw [h111]; rfl
            have HX : Hid (radN s.data.toList = (8, (s.extract 2 s.size).data.toList)) := by unfold Hid; rw [HR.out, hl, ext_tail]
            clear h111 hl
            go_wp2
            go_meet
            case rel => exact ⟨s.extract 2 s.size, 8, 8, rfl, rfl, rfl, by omega, by omega, HX, by simp, rfl⟩
          · have n111 : ((s[1].toNat : Int) == 111) = false := byte_ne (n := 111) (by decide) h111
            by_cases h98 : s[1] = 98
            · have hl : letR s[1] = 2 := by rw [h98]; rfl
              have hb : (s[1].toNat : Int) = 98 := by rw [h98]; rfl
              have HX : Hid (radN s.data.toList = (2, (s.extract 2 s.size).data.toList)) := by unfold Hid; rw [HR.out, hl, ext_tail]
              clear h98 hl
              go_wp2
              go_meet
              case rel => exact ⟨s.extract 2 s.size, 2, 2, rfl, rfl, rfl, by omega, by omega, HX, by simp, rfl⟩
            · have n98 : ((s[1].toNat : Int) == 98) = false := byte_ne (n := 98) (by decide) h98
              by_cases h100 : s[1] = 100
              · have hl : letR s[1] = 10 := by rw [h100]; rfl
                have hb : (s[1].toNat : Int) = 100 := by rw [h100]; rfl
                have HX : Hid (radN s.data.toList = (10, (s.extract 2 s.size).data.toList)) := by unfold Hid; rw [HR.out, hl, ext_tail]
                clear h100 hl
                go_wp2
                go_meet
                case rel => exact ⟨s.extract 2 s.size, 10, 10, rfl, rfl, rfl, by omega, by omega, HX, by simp, rfl⟩
              · have n100 : ((s[1].toNat : Int) == 100) = false := byte_ne (n := 100) (by decide) h100
                have HN : Hid (rdOkN s.data.toList = false) := by
                  have h0 : rdRad s.data.toList = 0 := by unfold rdRad; rw [HR.out]; show letR s[1] = 0; unfold letR; rw [if_neg h120, if_neg h111, if_neg h98, if_neg h100]
                  unfold Hid rdOkN; rw [h0]; simp
                clear h120 h111 h98 h100
                go_wp2
                (try simp only [Exit.inBlock, Exit.then]); refine bodyPost_ret (results_tmp2 rfl _ _ _) rfl ?_
                exact ⟨.inr ⟨HN.out, rfl⟩, Below.refl _ _⟩
      | false =>
        have HX := hideT' (hsh_no HH.out.symm)
        go_wp2
        go_meet
        case rel => exact ⟨s, 10, 10, rfl, rfl, rfl, by omega, by omega, HX, Nat.le_refl _, rfl⟩
    case rest =>
      obtain ⟨t, b, r, rfl, rfl, hrb, hr0, hr1, HR, hts, rfl⟩ := hcut
      have HRB := hideT' hrb
      clear hrb HH hh
      go_upto_region 14 with fail
      go_cut [45] (fun x wx => x = .bool (sgd t) ∧ wx = wc)
      case first =>
        by_cases h0 : 0 < t.size
        · have h0' : (0 : Int) < (t.size : Int) := by omega
          by_cases h43 : t[0] = 43
          · have hb : (t[0].toNat : Int) = 43 := by rw [h43]; rfl
            have HX : Hid (sgd t = true) := by unfold Hid; rw [sgd_of h0, h43]; rfl
            clear h43
            go_wp2
            go_meet
            case rel => exact ⟨by rw [HX.out], rfl⟩
          · have n43 : ((t[0].toNat : Int) == 43) = false := byte_ne (n := 43) (by decide) h43
            by_cases h45 : t[0] = 45
            · have hb : (t[0].toNat : Int) = 45 := by rw [h45]; rfl
              have HX : Hid (sgd t = true) := by unfold Hid; rw [sgd_of h0, h45]; rfl
              clear h43 h45 n43
              go_wp2
              go_meet
              case rel => exact ⟨by rw [HX.out], rfl⟩
            · have n45 : ((t[0].toNat : Int) == 45) = false := byte_ne (n := 45) (by decide) h45
              have HX : Hid (sgd t = false) := by unfold Hid; rw [sgd_of h0]; simp [h43, h45]
              clear h43 h45
              go_wp2
              go_meet
              case rel => exact ⟨by rw [HX.out], rfl⟩
        · have h0' : ¬ (0 : Int) < (t.size : Int) := by omega
          have HX : Hid (sgd t = false) := by unfold Hid sgd; rw [decide_eq_false h0]; rfl
          go_wp2
          go_meet
          case rel => exact ⟨by rw [HX.out], rfl⟩
      case rest =>
        obtain ⟨rfl, rfl⟩ := hcut
        obtain ⟨hh, hhd⟩ : ∃ hh, hh = sgd t := ⟨_, rfl⟩
        rw [← hhd]
        have HH := hideT' hhd
        clear hhd
        go_upto_if 45 with fail
        go_cut [0, 5] (fun x y wx => ∃ (u : ByteArray) (g : Bool), x = .string u ∧ y = .bool g ∧ Hid (sigN t.data.toList = (g, u.data.toList)) ∧ u.size ≤ t.size ∧ wx = wc)
        case first =>
          cases hh with
          | true =>
            obtain ⟨h0, hr⟩ := sgd_yes HH.out.symm
            have h0' : (0 : Int) < (t.size : Int) := by omega
            have h1' : (1 : Int) ≤ (t.size : Int) := by omega
            cases h45 : (t[0] == 45) with
            | true =>
              have hb : (t[0].toNat : Int) = 45 := by rw [eq_of_beq h45]; rfl
              have HX : Hid (sigN t.data.toList = (true, (t.extract 1 t.size).data.toList)) := by unfold Hid; rw [hr, h45, ext_tail]
              clear hr h45
              go_wp2
              go_meet
              case rel => exact ⟨t.extract 1 t.size, true, rfl, rfl, HX, by simp, rfl⟩
            | false =>
              have hb : ((t[0].toNat : Int) == 45) = false := byte_ne (n := 45) (by decide) (by simpa using h45)
              have HX : Hid (sigN t.data.toList = (false, (t.extract 1 t.size).data.toList)) := by unfold Hid; rw [hr, h45, ext_tail]
              clear hr h45
              go_wp2
              go_meet
              case rel => exact ⟨t.extract 1 t.size, false, rfl, rfl, HX, by simp, rfl⟩
          | false =>
            have HX := hideT' (sgd_no HH.out.symm)
            go_wp2
            go_meet
            case rel => exact ⟨t, false, rfl, rfl, HX, Nat.le_refl _, rfl⟩
        case rest =>
          obtain ⟨u, g, rfl, rfl, HS, hus, rfl⟩ := hcut
          clear HH hh
          go_wp2_with fail
          refine (l2Cut_any u _ (by unfold maxLen; omega)).mono ?_
          rintro e w2 ⟨⟨o, v, rfl, ho, hv⟩, hW2⟩
          obtain ⟨tb, htb⟩ : ∃ tb, tb = (cut47 u.data.toList).2.2 := ⟨_, rfl⟩
          rw [← htb]
          have e1 : (radN s.data.toList).1 = b := by rw [HR.out]
          have e2 : (radN s.data.toList).2 = t.data.toList := by rw [HR.out]
          have HO : Hid (o.data.toList = rdTop s.data.toList ∧ rdRad s.data.toList = b ∧ rdNeg s.data.toList = g) := by
            refine ⟨?_, e1, ?_⟩
            · unfold rdTop; rw [e2, HS.out, ho]
            · unfold rdNeg; rw [e2, HS.out]
          have HV : Hid (rdBot s.data.toList = if tb then v.data.toList else [49]) := by
            unfold Hid rdBot; rw [e2, HS.out, ← htb, hv]
          clear e1 e2
          clear ho hv htb
          go_upto_if 58 with fail
          go_cut [7] (fun x wx => ∃ z : ByteArray, x = .string z ∧ Hid (z.data.toList = rdBot s.data.toList) ∧ wx = w2)
          case first =>
            cases tb with
            | true =>
              have HX : Hid (v.data.toList = rdBot s.data.toList) := by unfold Hid; rw [HV.out]; rfl
              go_wp2
              go_meet
              case rel => exact ⟨v, rfl, HX, rfl⟩
            | false =>
              have HX : Hid ((⟨#[49]⟩ : ByteArray).data.toList = rdBot s.data.toList) := by unfold Hid; rw [HV.out]; rfl
              go_wp2
              go_meet
              case rel => exact ⟨⟨#[49]⟩, rfl, HX, rfl⟩
          case rest =>
            obtain ⟨z, rfl, HZ, rfl⟩ := hcut
            have HK : Hid (rdOkN s.data.toList = ((decide (b ≠ 0) && (rdDig b o.data.toList && rdDig b z.data.toList)) && decide (rval b z.data.toList ≠ 0))) := by
              unfold Hid rdOkN; rw [HO.out.2.1, ← HO.out.1, ← HZ.out]
            by_cases ho6 : o.size ≤ 600
            · by_cases hz6 : z.size ≤ 600
              · have ho6' : ¬ (600 : Int) < (o.size : Int) := by omega
                have hz6' : ¬ (600 : Int) < (z.size : Int) := by omega
                go_wp2_with fail
                refine (l1OfRadix_any o b r _ (by omega) HRB.out hr0 hr1).mono ?_
                rintro e w3 ⟨⟨t1, rfl, hc1, _⟩, hW3⟩
                obtain ⟨p1, hp1⟩ : ∃ p1, p1 = (decide (0 < o.size) && rdigs b o.data.toList) := ⟨_, rfl⟩
                rw [← hp1]
                have HP1 : Hid (rdDig b o.data.toList = p1) := by unfold Hid; rw [hp1]; exact rdDig_eq ho6
                have HC1 : Hid (p1 = true → canonB t1.data.toList = true ∧ dval t1.data.toList = rval b o.data.toList) := fun h => hc1 (by rw [h] at hp1; simp at hp1; exact hp1.2)
                have hB3 := hW2.trans (hW3.mono hW2.size)
                clear hp1 hc1
                go_wp2_with fail
                refine (l1OfRadix_any z b r _ (by omega) HRB.out hr0 hr1).mono ?_
                rintro e w4 ⟨⟨t2, rfl, hc2, _⟩, hW4⟩
                obtain ⟨p2, hp2⟩ : ∃ p2, p2 = (decide (0 < z.size) && rdigs b z.data.toList) := ⟨_, rfl⟩
                rw [← hp2]
                have HP2 : Hid (rdDig b z.data.toList = p2) := by unfold Hid; rw [hp2]; exact rdDig_eq hz6
                have HC2 : Hid (p2 = true → canonB t2.data.toList = true ∧ dval t2.data.toList = rval b z.data.toList) := fun h => hc2 (by rw [h] at hp2; simp at hp2; exact hp2.2)
                have hB4 := hB3.trans (hW4.mono hB3.size)
                clear hp2 hc2
                cases p1 with
                | false =>
                  have HN : Hid (rdOkN s.data.toList = false) := by unfold Hid; rw [HK.out, HP1.out]; simp
                  go_wp2
                  go_ret2
                  exact ⟨.inr ⟨HN.out, rfl⟩, hB4⟩
                | true =>
                  cases p2 with
                  | false =>
                    have HN : Hid (rdOkN s.data.toList = false) := by unfold Hid; rw [HK.out, HP2.out]; simp
                    go_wp2
                    go_ret2
                    exact ⟨.inr ⟨HN.out, rfl⟩, hB4⟩
                  | true =>
                    obtain ⟨c1, v1⟩ := HC1.out rfl
                    obtain ⟨c2, v2⟩ := HC2.out rfl
                    have hb16 : b ≤ 16 := by have := HRB.out; omega
                    have hb0 : b ≠ 0 := by have := HRB.out; omega
                    have s1 : t1.size ≤ 1200 := rad_size hb16 ho6 (rdDig_digs HP1.out) c1 v1
                    have s2 : t2.size ≤ 1200 := rad_size hb16 hz6 (rdDig_digs HP2.out) c2 v2
                    have HCC := hideT' (And.intro (And.intro c1 v1) (And.intro c2 v2))
                    have HB := hideT' hb0
                    clear c1 v1 c2 v2 hb16 hb0
                    by_cases hz0 : t2.data.toList = [48]
                    · have hz0' : (t2.toList == [48]) = true := str_eq hz0
                      have HN : Hid (rdOkN s.data.toList = false) := by
                        have : rval b z.data.toList = 0 := by rw [← HCC.out.2.2, hz0]; decide
                        unfold Hid; rw [HK.out, this]; simp
                      clear hz0
                      go_wp2
                      go_ret2
                      exact ⟨.inr ⟨HN.out, rfl⟩, hB4⟩
                    · have hz0' : (t2.toList == [48]) = false := str_ne hz0
                      have HD : Hid (dval t2.data.toList ≠ 0) := fun e => hz0 ((canon_zero HCC.out.2.1).1 e)
                      clear hz0
                      go_wp2_with fail
                      refine (l2Make_any g t1 t2 _ (by omega) (by omega) HCC.out.1.1 HCC.out.2.1 HD.out).mono ?_
                      rintro e w5 ⟨hTN, hW5⟩
                      have HI : Hid (ReadAns s e) := by
                        refine .inl ⟨?_, ?_⟩
                        · rw [HK.out, HP1.out, HP2.out, decide_eq_true HB.out, decide_eq_true (by rw [← HCC.out.2.2]; exact HD.out)]; rfl
                        · rw [HO.out.2.1, HO.out.2.2, ← HO.out.1, ← HZ.out, ← HCC.out.1.2, ← HCC.out.2.2]
                          exact hTN
                      obtain ⟨s5, o5, rfl⟩ := hTN.form3
                      have hB5 := hB4.trans (hW5.mono hB4.size)
                      clear hTN
                      go_wp2
                      go_ret2
                      exact ⟨HI.out, hB5⟩
              · have ho6' : ¬ (600 : Int) < (o.size : Int) := by omega
                have hz6' : (600 : Int) < (z.size : Int) := by omega
                have HN : Hid (rdOkN s.data.toList = false) := by unfold Hid; rw [HK.out, rdDig_long hz6]; simp
                go_wp2
                go_ret2
                exact ⟨.inr ⟨HN.out, rfl⟩, hW2⟩
            · have ho6' : (600 : Int) < (o.size : Int) := by omega
              have HN : Hid (rdOkN s.data.toList = false) := by unfold Hid; rw [HK.out, rdDig_long ho6]; simp
              go_wp2
              go_ret2
              exact ⟨.inr ⟨HN.out, rfl⟩, hW2⟩

end Go.Proofs.YtjgpjafndaikcaaDoor

/-
  What readDigits of impl answers.
-/
namespace Go.Proofs.YtjgpjafndaikcaaDoor
open Go.RowKit
set_option linter.unusedVariables false

/-- At most 1200 digits just where there are at most 200 parts. -/
theorem Rep.fits2 {n k : Nat} {p : List Int} (h : Rep n k p) : k ≤ 200 ↔ n < 10 ^ 1200 := by
  have e : ((10 ^ 1200 : Nat) : Int) = 1000000 ^ 200 := by decide +kernel
  constructor
  · intro hk
    have h1 := h.lt
    have : (1000000 : Int) ^ k ≤ 1000000 ^ 200 := ipow_le hk
    omega
  · intro hn
    by_cases hk : k ≤ 200
    · exact hk
    · have h2 := h.ge (by omega)
      have : (1000000 : Int) ^ 200 ≤ 1000000 ^ (k - 1) := ipow_le (by omega)
      omega

/-- Are these 1..2000 digits of the radix, which tell a number of at most 1200 digits? -/
def rdOk (b : Nat) (s : ByteArray) : Bool := (decide (1 ≤ s.size) && decide (s.size ≤ 2000)) && (rdigs b s.data.toList && decide (rval b s.data.toList < 10 ^ 1200))

theorem rd_bad {b : Nat} {s : ByteArray} (i : Nat) (h : i < s.size) (hb : ¬ dg s[i] < b) : rdOk b s = false := by
  have : rdigs b s.data.toList = false := by
    unfold rdigs
    rw [List.all_eq_false]
    exact ⟨s.data.toList[i]'(by simpa using h), List.getElem_mem _, fun h => hb (of_decide_eq_true h)⟩
  unfold rdOk; rw [this, Bool.false_and, Bool.and_false]

theorem rd_long {b : Nat} {s : ByteArray} (i : Nat) (hb : 1 ≤ b) (hv : ¬ rval b (s.data.toList.take i) < 10 ^ 1200) : rdOk b s = false := by
  have h1 := rval_mono b hb (s.data.toList.take i) (s.data.toList.drop i)
  rw [List.take_append_drop] at h1
  have h2 : ¬ rval b s.data.toList < 10 ^ 1200 := fun h => hv (Nat.lt_of_le_of_lt h1 h)
  unfold rdOk; rw [decide_eq_false h2, Bool.and_false, Bool.and_false]

theorem rd_take (b : Nat) (s : ByteArray) (i : Nat) (h : i < s.size) : rval b (s.data.toList.take (i + 1)) = b * rval b (s.data.toList.take i) + dg s[i] := by
  rw [take_snoc s i h, rval_snoc]

theorem zero_rep : Rep 0 0 zP :=
  ⟨zP_len, by omega, fun i => by rw [zP_get]; omega, fun i => by rw [zP_get]; omega, fun i _ => zP_get i, fun h => absurd h (by omega), by rw [vb_zero _ _ zP_get]; rfl⟩

set_option maxHeartbeats 1000000 in
set_option maxRecDepth 100000 in
theorem readDigits_any (s : ByteArray) (b : Nat) (r : Int) (w : World) (hs : s.size ≤ maxLen) (hr : r = (b : Int)) (hr0 : 2 ≤ r) (hr1 : r ≤ 16) :
    Calls Tryd.prog 16 #[.string s, .int .i64 r] w fun e w' => ∃ (i : Nat) (q : List Int), e = .returned (.tuple #[.agg (natC i q), .bool (rdOk b s)]) ∧ q.length = 204 ∧ (rdOk b s = true → Rep (rval b s.data.toList) i q) ∧ Below w.heap.size w w' := by
  have hz := zero_nat.1
  unfold maxLen at hs
  have HR := hide hr
  have A := (NatAt.new w 0 zP).old (.cells (natC 0 zP) 35)
  have B := NatAt.new (w.alloc (.cells (natC 0 zP) 35)) 0 zP
  have hB : Below w.heap.size w ((w.alloc (.cells (natC 0 zP) 35)).alloc (.cells (natC 0 zP) 35)) := ((Below.refl _ _).alloc (Nat.le_refl _) _).alloc (by simp) _
  simp only [World.size_alloc] at B
  clear hr
  by_cases hl : 1 ≤ (s.size : Int) ∧ (s.size : Int) ≤ 2000
  · obtain ⟨hl1, hl2⟩ := hl
    go_enter Tryd.func16, Tryd.ntmps16
    go_wp2
    go_loopg [20] s.size (fun g x wr => ∃ (t kc : Nat) (pc : List Int), g = s.size - t ∧ t ≤ s.size ∧ x = .int .i64 (t : Int) ∧ Hid (Rep (rval b (s.data.toList.take t)) kc pc) ∧ Hid (rdigs b (s.data.toList.take t) = true) ∧ kc ≤ 200 ∧ pc.length = 204 ∧ NatAt wr w.heap.size 0 zP ∧ NatAt wr (w.heap.size + 1) kc pc ∧ Below w.heap.size w wr)
    case atStart => exact ⟨0, 0, zP, rfl, by omega, rfl, zero_rep, rfl, by omega, zP_len, A, B, hB⟩
    case round =>
      obtain ⟨t, kc, pc, rfl, ht, rfl, HC, HDG, hkc, hpc, hA, hBn, hW⟩ := hrel
      clear A B hB
      have hWs := hW.size
      have lB := hBn.lt
      by_cases hlt : (t : Int) < (s.size : Int)
      · have ht' : t < s.size := by omega
        obtain ⟨d, hd⟩ : ∃ d : Int, d = digI ((s[t]'ht').toNat : Int) := ⟨_, rfl⟩
        have hdn : d = (dg s[t] : Int) := by rw [hd, dg_cast]
        have hd0 : 0 ≤ d := by omega
        have hd1 : d ≤ 16 := by have := dg_le s[t]; omega
        have hcb : ((s[t]'ht').toNat : Int) ≤ 255 := by have := (s[t]'ht').toNat_lt; omega
        have HD := hide (And.intro hd hdn)
        clear hd hdn
        go_wp2_with fail
        refine (digitOf_any ((s[t]'ht').toNat : Int) _ (by omega) hcb).mono ?_
        rintro e w' ⟨rfl, rfl⟩
        rw [← HD.out.1]
        by_cases hbad : r ≤ d
        · have HN : Hid (rdOk b s = false) := rd_bad t ht' (by have := HD.out.2; have := HR.out; omega)
          go_wp2_with (first | (refine load_nat rfl _ rfl (w.heap.size + 1) rfl kc pc hBn hpc ?_) | (refine store_nat rfl _ _ rfl rfl w.heap.size kc pc rfl rfl 0 zP hA zP_len hpc ?_; intro w1 hN1 hg1 hs1))
          refine bodyPost_ret (v := .tuple #[.agg (natC kc pc), .bool false]) (res_nat_tmp Tryd.results16 _ _ w.heap.size _ _ _ rfl rfl hN1 hpc) rfl ⟨kc, pc, by rw [HN.out], hpc, (fun h => by rw [HN.out] at h; cases h), ?_⟩
          exact hW.grown hg1 (by omega) (by intro k hk; cases hk; omega)
        · go_wp2_with (first | (refine load_nat rfl _ rfl (w.heap.size + 1) rfl kc pc hBn hpc ?_))
          refine (timesSmall_any r d w' b (dg s[t]) HC.out (by omega) HR.out HD.out.2 (by omega) hr1 hd0 hd1).mono ?_
          rintro e w2 ⟨i, q, rfl, hR, hW2⟩
          have hq := hR.len
          rw [← rd_take b s t ht'] at hR
          have HR2 := hide hR
          have hA2 := hA.below hW2 (by omega)
          have hB2 := hBn.below hW2 (by omega)
          have hW2' : Below w.heap.size w w2 := hW.trans (hW2.mono (by omega))
          have hs2 := hW2.size
          have HDG2 : Hid (rdigs b (s.data.toList.take (t + 1)) = true) := by
            unfold Hid rdigs
            rw [take_snoc s t ht', List.all_append]
            have h1 := HDG.out
            unfold rdigs at h1
            rw [h1]
            simp
            have := HD.out.2; have := HR.out; omega
          clear hR hA hBn hW hW2 HDG HC
          by_cases hf : (i : Int) ≤ 200
          · have hf' : ¬ (200 : Int) < (i : Int) := by omega
            go_wp2_with (first | (refine store_nat rfl _ _ rfl rfl (w.heap.size + 1) i q rfl rfl kc pc hB2 hpc hq ?_; intro w3 hN3 hg3 hs3; have c0 := hN3.c0))
            have hA3 := hA2.grown hg3 (by simp)
            have hW3 : Below w.heap.size w w3 := hW2'.grown hg3 (by omega) (by intro k hk; cases hk; omega)
            go_roundg (s.size - (t + 1))
            case measure => omega
            case rel => exact ⟨t + 1, i, q, rfl, by omega, by go_num, HR2, HDG2, by omega, hq, hA3, hN3, hW3⟩
          · have HN : Hid (rdOk b s = false) := rd_long (t + 1) (by have := HR.out; omega) (fun h => hf (by have := HR2.out.fits2.2 h; omega))
            have hf' : (200 : Int) < (i : Int) := by omega
            go_wp2_with (first | (refine store_nat rfl _ _ rfl rfl (w.heap.size + 1) i q rfl rfl kc pc hB2 hpc hq ?_; intro w3 hN3 hg3 hs3; have c0 := hN3.c0; have hA3 := hA2.grown hg3 (by simp)) | (refine load_nat rfl _ rfl (w.heap.size + 1) rfl i q hN3 hq ?_) | (refine store_nat rfl _ _ rfl rfl w.heap.size i q rfl rfl 0 zP hA3 zP_len hq ?_; intro w5 hN5 hg5 hs5))
            have hW3 : Below w.heap.size w w3 := hW2'.grown hg3 (by omega) (by intro k hk; cases hk; omega)
            refine bodyPost_ret (v := .tuple #[.agg (natC i q), .bool false]) (res_nat_tmp Tryd.results16 _ _ w.heap.size _ _ _ rfl rfl hN5 hq) rfl ⟨i, q, by rw [HN.out], hq, (fun h => by rw [HN.out] at h; cases h), ?_⟩
            exact hW3.grown hg5 (by omega) (by intro k hk; cases hk; omega)
      · have hts : t = s.size := by omega
        have htk : s.data.toList.take t = s.data.toList := by rw [hts]; exact List.take_of_length_le (by simp)
        rw [htk] at HC HDG
        have HN : Hid (rdOk b s = true) := by
          have h1 := HC.out.fits2.1 hkc
          unfold Hid rdOk
          rw [HDG.out, decide_eq_true h1, decide_eq_true (by omega), decide_eq_true (by omega)]; rfl
        clear hts htk
        go_wp2_with (first | (refine load_nat rfl _ rfl (w.heap.size + 1) rfl kc pc hBn hpc ?_) | (refine store_nat rfl _ _ rfl rfl w.heap.size kc pc rfl rfl 0 zP hA zP_len hpc ?_; intro w1 hN1 hg1 hs1))
        refine bodyPost_ret (v := .tuple #[.agg (natC kc pc), .bool true]) (res_nat_tmp Tryd.results16 _ _ w.heap.size _ _ _ rfl rfl hN1 hpc) rfl ⟨kc, pc, by rw [HN.out], hpc, (fun _ => HC.out), ?_⟩
        exact hW.grown hg1 (by omega) (by intro k hk; cases hk; omega)
  · have HN : Hid (rdOk b s = false) := by
      unfold Hid rdOk
      have : (decide (1 ≤ s.size) && decide (s.size ≤ 2000)) = false := by simp; omega
      rw [this]; rfl
    have hl' : (s.size : Int) < 1 ∨ (2000 : Int) < (s.size : Int) := by omega
    clear hl
    rcases hl' with hl | hl
    all_goals
      go_enter Tryd.func16, Tryd.ntmps16
      go_wp2_with (first | (refine load_nat rfl _ rfl (w.heap.size + 1) rfl 0 zP B zP_len ?_) | (refine store_nat rfl _ _ rfl rfl w.heap.size 0 zP rfl rfl 0 zP A zP_len zP_len ?_; intro w1 hN1 hg1 hs1))
      refine bodyPost_ret (v := .tuple #[.agg (natC 0 zP), .bool false]) (res_nat_tmp Tryd.results16 _ _ w.heap.size _ _ _ rfl rfl hN1 zP_len) rfl ⟨0, zP, by rw [HN.out]; rfl, zP_len, (fun h => by rw [HN.out] at h; cases h), ?_⟩
      exact hB.grown hg1 (by simp; omega) (by intro k hk; cases hk; exact Nat.le_refl _)
end Go.Proofs.YtjgpjafndaikcaaDoor

/-
  What impl.ReadNum reads behind the radix's sign: plain facts, and what cutRadix and cutSign of impl answer.
-/
namespace Go.Proofs.YtjgpjafndaikcaaDoor
open Go.RowKit
set_option linter.unusedVariables false

def coTop (l : List UInt8) : List UInt8 := (cut47 (sigN l).2).1
def coUnd (l : List UInt8) : List UInt8 := (cut47 (sigN l).2).2.1
def coBrk (l : List UInt8) : Bool := (cut47 (sigN l).2).2.2
def coBot (l : List UInt8) : List UInt8 := if coBrk l then coUnd l else [49]
def coOk (b : Nat) (l : List UInt8) : Bool := (rdDig b (coTop l) && rdDig b (coBot l)) && decide (rval b (coBot l) ≠ 0)
/-- The radix and what stands behind its sign; where a # is none, the text as it is, which no digits are. -/
def RadCut (l : List UInt8) (b : Nat) (t : List UInt8) : Prop := radN l = (b, t) ∨ (b = 10 ∧ t = l ∧ l.head? = some 35 ∧ rdRad l = 0)

theorem coOk_of {l t : List UInt8} {b : Nat} (h : RadCut l b t) (hb : b ≠ 0) : rdOkN l = coOk b t := by
  rcases h with h | ⟨rfl, rfl, h1, h2⟩
  · unfold rdOkN coOk rdTop rdBot rdRad coTop coBot coUnd coBrk
    rw [h]
    simp [hb]
  · have e1 : rdOkN t = false := by unfold rdOkN; rw [h2]; rfl
    rw [e1]
    obtain ⟨m, rfl⟩ : ∃ m, t = 35 :: m := by
      cases t with
      | nil => cases h1
      | cons c m => simp at h1; exact ⟨m, by rw [h1]⟩
    have e2 : coTop (35 :: m) = 35 :: (cut47 m).1 := rfl
    have e3 : rdigs 10 (35 :: (cut47 m).1) = false := by
      unfold rdigs
      rw [List.all_cons]
      have : decide (dg 35 < 10) = false := by decide
      rw [this]; rfl
    unfold coOk rdDig
    rw [e2, e3]; simp

theorem ReadAns.mk' {s t : ByteArray} {b : Nat} (h : RadCut s.data.toList b t.data.toList) (hb : b ≠ 0) {e : Ending}
    (he : (coOk b t.data.toList = true ∧ TellsN ((sigN t.data.toList).1 && decide (rval b (coTop t.data.toList) ≠ 0)) (rval b (coTop t.data.toList) / Nat.gcd (rval b (coTop t.data.toList)) (rval b (coBot t.data.toList))) (rval b (coBot t.data.toList) / Nat.gcd (rval b (coTop t.data.toList)) (rval b (coBot t.data.toList))) e) ∨ (coOk b t.data.toList = false ∧ Mute e)) : ReadAns s e := by
  rcases he with ⟨ho, he⟩ | ⟨ho, he⟩
  · refine .inl ⟨by rw [coOk_of h hb]; exact ho, ?_⟩
    rcases h with h | ⟨rfl, h0, h1, h2⟩
    · unfold rdNeg rdTop rdBot rdRad
      rw [h]
      exact he
    · have := coOk_of (.inr ⟨rfl, h0, h1, h2⟩ : RadCut s.data.toList 10 t.data.toList) hb
      rw [ho] at this
      unfold rdOkN at this
      rw [h2] at this
      cases this
  · exact .inr ⟨by rw [coOk_of h hb]; exact ho, he⟩

theorem below_drewN {B : Nat} {a w : World} (h : Below B a w) (n : Nat) : Below B a (w.drewN n) := ⟨h.os, h.tape, h.output, h.size, h.block⟩
theorem ten_le {n : Nat} (a b : Nat) (hab : a ≤ b) (h : n < 10 ^ a) : n < 10 ^ b := Nat.lt_of_lt_of_le h (Nat.pow_le_pow_right (by decide) hab)
theorem rdOk_dig {b : Nat} {o : ByteArray} (hb : b ≤ 16) (h : o.size ≤ 600) : rdOk b o = rdDig b o.data.toList := by
  rw [rdDig_eq h]
  unfold rdOk
  rw [decide_eq_true (show o.size ≤ 2000 by omega), Bool.and_true]
  cases hd : rdigs b o.data.toList with
  | false => rw [Bool.false_and, Bool.and_false, Bool.and_false]
  | true =>
    have hl : o.data.toList.length = o.size := by simp
    have h1 := rval_lt b o.data.toList hd
    rw [hl] at h1
    have h3 : rval b o.data.toList < 10 ^ 1200 := ten_le (2 * o.size) 1200 (by omega) (Nat.lt_of_lt_of_le h1 (rad_pow hb))
    rw [decide_eq_true h3]
    by_cases h0 : 0 < o.size
    · rw [decide_eq_true h0, decide_eq_true (show 1 ≤ o.size by omega)]; rfl
    · rw [decide_eq_false h0, decide_eq_false (show ¬ 1 ≤ o.size by omega)]; rfl

set_option maxHeartbeats 1000000 in
set_option maxRecDepth 100000 in
theorem cutRadix_any (s : ByteArray) (w : World) (hs : s.size ≤ maxLen) :
    Calls Tryd.prog 13 #[.string s] w fun e w' => (∃ (t : ByteArray) (b : Nat) (r : Int), e = .returned (.tuple #[.int .i64 r, .string t]) ∧ r = (b : Int) ∧ 2 ≤ r ∧ r ≤ 16 ∧ RadCut s.data.toList b t.data.toList ∧ t.size ≤ s.size) ∧ Below w.heap.size w w' := by
  unfold maxLen at hs
  cases hh : hsh s with
  | false =>
    have HX := hideT' (hsh_no hh)
    by_cases h1 : 1 < s.size
    · have h1' : ¬ (s.size : Int) < 2 := by omega
      have h0 : 0 < s.size := by omega
      rw [hsh_of h1] at hh
      have h35' : ((s[0].toNat : Int) == 35) = false := byte_ne (n := 35) (by decide) (by simpa using hh)
      clear hh
      go_enter Tryd.func13, Tryd.ntmps13
      go_wp2
      go_ret2
      exact ⟨⟨s, 10, 10, rfl, rfl, by omega, by omega, .inl HX.out, Nat.le_refl _⟩, Below.refl _ _⟩
    · have h1' : (s.size : Int) < 2 := by omega
      clear hh
      go_enter Tryd.func13, Tryd.ntmps13
      go_wp2
      go_ret2
      exact ⟨⟨s, 10, 10, rfl, rfl, by omega, by omega, .inl HX.out, Nat.le_refl _⟩, Below.refl _ _⟩
  | true =>
    obtain ⟨h1, hr⟩ := hsh_yes hh
    have h0 : 0 < s.size := by omega
    have h1' : ¬ (s.size : Int) < 2 := by omega
    have h2' : (2 : Int) ≤ (s.size : Int) := by omega
    have hh' := hh
    rw [hsh_of h1] at hh'
    have h35' : (s[0].toNat : Int) = 35 := by rw [eq_of_beq hh']; rfl
    have H35 : Hid (s.data.toList.head? = some 35) := by
      unfold Hid; rw [List.head?_eq_getElem?, getN 0 h0, eq_of_beq hh']
    have HR : Hid (radN s.data.toList = (letR s[1], s.data.toList.drop 2)) := by
      unfold Hid; rw [hr]; simp [List.getD, getN 1 h1]
    clear hr hh hh'
    by_cases h120 : s[1] = 120
    · have hl : letR s[1] = 16 := by rw [h120]; rfl
      have hb : (s[1].toNat : Int) = 120 := by rw [h120]; rfl
      have HX : Hid (radN s.data.toList = (16, (s.extract 2 s.size).data.toList)) := by unfold Hid; rw [HR.out, hl, ext_tail]
      clear h120 hl
      go_enter Tryd.func13, Tryd.ntmps13
      go_wp2_with fail
      go_quiet (fail)
      go_wp2
      (try simp only [Exit.inBlock, Exit.then]); refine bodyPost_ret (results_tmp2 rfl _ _ _) rfl ?_
      exact ⟨⟨s.extract 2 s.size, 16, 16, rfl, rfl, by omega, by omega, .inl HX.out, by simp⟩, below_drewN (Below.refl _ _) _⟩
    · have n120 : ((s[1].toNat : Int) == 120) = false := byte_ne (n := 120) (by decide) h120
      by_cases h111 : s[1] = 111
      · have hl : letR s[1] = 8 := by rw [h111]; rfl
        have hb : (s[1].toNat : Int) = 111 := by rw [h111]; rfl
        have HX : Hid (radN s.data.toList = (8, (s.extract 2 s.size).data.toList)) := by unfold Hid; rw [HR.out, hl, ext_tail]
        clear h111 hl n120 h120
        go_enter Tryd.func13, Tryd.ntmps13
        go_wp2_with fail
        go_quiet (fail)
        go_wp2
        (try simp only [Exit.inBlock, Exit.then]); refine bodyPost_ret (results_tmp2 rfl _ _ _) rfl ?_
        exact ⟨⟨s.extract 2 s.size, 8, 8, rfl, rfl, by omega, by omega, .inl HX.out, by simp⟩, below_drewN (Below.refl _ _) _⟩
      · have n111 : ((s[1].toNat : Int) == 111) = false := byte_ne (n := 111) (by decide) h111
        by_cases h98 : s[1] = 98
        · have hl : letR s[1] = 2 := by rw [h98]; rfl
          have hb : (s[1].toNat : Int) = 98 := by rw [h98]; rfl
          have HX : Hid (radN s.data.toList = (2, (s.extract 2 s.size).data.toList)) := by unfold Hid; rw [HR.out, hl, ext_tail]
          clear h98 hl n120 h120 n111 h111
          go_enter Tryd.func13, Tryd.ntmps13
          go_wp2_with fail
          go_quiet (fail)
          go_wp2
          (try simp only [Exit.inBlock, Exit.then]); refine bodyPost_ret (results_tmp2 rfl _ _ _) rfl ?_
          exact ⟨⟨s.extract 2 s.size, 2, 2, rfl, rfl, by omega, by omega, .inl HX.out, by simp⟩, below_drewN (Below.refl _ _) _⟩
        · have n98 : ((s[1].toNat : Int) == 98) = false := byte_ne (n := 98) (by decide) h98
          by_cases h100 : s[1] = 100
          · have hl : letR s[1] = 10 := by rw [h100]; rfl
            have hb : (s[1].toNat : Int) = 100 := by rw [h100]; rfl
            have HX : Hid (radN s.data.toList = (10, (s.extract 2 s.size).data.toList)) := by unfold Hid; rw [HR.out, hl, ext_tail]
            clear h100 hl n120 h120 n111 h111 n98 h98
            go_enter Tryd.func13, Tryd.ntmps13
            go_wp2_with fail
            go_quiet (fail)
            go_wp2
            (try simp only [Exit.inBlock, Exit.then]); refine bodyPost_ret (results_tmp2 rfl _ _ _) rfl ?_
            exact ⟨⟨s.extract 2 s.size, 10, 10, rfl, rfl, by omega, by omega, .inl HX.out, by simp⟩, below_drewN (Below.refl _ _) _⟩
          · have n100 : ((s[1].toNat : Int) == 100) = false := byte_ne (n := 100) (by decide) h100
            have HN : Hid (rdRad s.data.toList = 0) := by
              unfold Hid rdRad; rw [HR.out]; show letR s[1] = 0; unfold letR; rw [if_neg h120, if_neg h111, if_neg h98, if_neg h100]
            clear h120 h111 h98 h100
            go_enter Tryd.func13, Tryd.ntmps13
            go_wp2
            go_ret2
            exact ⟨⟨s, 10, 10, rfl, rfl, by omega, by omega, .inr ⟨rfl, rfl, H35.out, HN.out⟩, Nat.le_refl _⟩, Below.refl _ _⟩

set_option maxHeartbeats 1000000 in
set_option maxRecDepth 100000 in
theorem cutSign_any (s : ByteArray) (w : World) (hs : s.size ≤ maxLen) :
    Calls Tryd.prog 14 #[.string s] w fun e w' => (∃ t : ByteArray, e = .returned (.tuple #[.bool (sigN s.data.toList).1, .string t]) ∧ t.data.toList = (sigN s.data.toList).2 ∧ t.size ≤ s.size) ∧ Below w.heap.size w w' := by
  unfold maxLen at hs
  by_cases h0 : 0 < s.size
  · have h0' : (1 : Int) ≤ (s.size : Int) := by omega
    have hl : s.data.toList.length = s.size := by simp
    have hne : (s.toList == []) = false := str_ne (fun e => by rw [e] at hl; simp at hl; omega)
    clear hl
    have HS := hideT' (sigN_of h0)
    by_cases h45 : s[0] = 45
    · have hb : (s[0].toNat : Int) = 45 := by rw [h45]; rfl
      have HX : Hid ((sigN s.data.toList).1 = true ∧ (s.extract 1 s.size).data.toList = (sigN s.data.toList).2) := by
        unfold Hid; rw [HS.out, if_pos h45, ext_tail]; exact ⟨rfl, rfl⟩
      clear h45
      go_enter Tryd.func14, Tryd.ntmps14
      go_wp2_with fail
      go_quiet (fail)
      go_wp2
      go_ret2
      exact ⟨⟨s.extract 1 s.size, by rw [HX.out.1]; rfl, HX.out.2, by simp⟩, below_drewN (Below.refl _ _) _⟩
    · have n45 : ((s[0].toNat : Int) == 45) = false := byte_ne (n := 45) (by decide) h45
      by_cases h43 : s[0] = 43
      · have hb : (s[0].toNat : Int) = 43 := by rw [h43]; rfl
        have HX : Hid ((sigN s.data.toList).1 = false ∧ (s.extract 1 s.size).data.toList = (sigN s.data.toList).2) := by
          unfold Hid; rw [HS.out, if_neg h45, if_pos h43, ext_tail]; exact ⟨rfl, rfl⟩
        clear h45 h43 n45
        go_enter Tryd.func14, Tryd.ntmps14
        go_wp2_with fail
        go_quiet (fail)
        go_wp2
        go_ret2
        exact ⟨⟨s.extract 1 s.size, by rw [HX.out.1]; rfl, HX.out.2, by simp⟩, below_drewN (Below.refl _ _) _⟩
      · have n43 : ((s[0].toNat : Int) == 43) = false := byte_ne (n := 43) (by decide) h43
        have HX : Hid ((sigN s.data.toList).1 = false ∧ s.data.toList = (sigN s.data.toList).2) := by
          unfold Hid; rw [HS.out, if_neg h45, if_neg h43]; exact ⟨rfl, rfl⟩
        clear h45 h43
        go_enter Tryd.func14, Tryd.ntmps14
        go_wp2
        go_ret2
        exact ⟨⟨s, by rw [HX.out.1]; rfl, HX.out.2, Nat.le_refl _⟩, Below.refl _ _⟩
  · have hl : s.data.toList.length = s.size := by simp
    have he : s.data.toList = [] := List.length_eq_zero_iff.1 (by omega)
    have hne : (s.toList == []) = true := str_eq he
    have HX : Hid ((sigN s.data.toList).1 = false ∧ s.data.toList = (sigN s.data.toList).2) := by
      unfold Hid; rw [sigN_none h0]; exact ⟨rfl, rfl⟩
    clear hl he
    go_enter Tryd.func14, Tryd.ntmps14
    go_wp2
    go_ret2
    exact ⟨⟨s, by rw [HX.out.1]; rfl, HX.out.2, Nat.le_refl _⟩, Below.refl _ _⟩
end Go.Proofs.YtjgpjafndaikcaaDoor

/-
  What impl.ReadNum answers.
-/
namespace Go.Proofs.YtjgpjafndaikcaaDoor
open Go.RowKit
set_option linter.unusedVariables false

theorem len_le {s : ByteArray} {n : Nat} (h : s.data.toList.length ≤ n) : s.size ≤ n := by simpa using h

set_option maxHeartbeats 2000000 in
set_option maxRecDepth 100000 in
theorem implReadNum_any (s : ByteArray) (w : World) (hs : s.size ≤ maxLen) (hT : Tab w.heap.size w) :
    Calls Tryd.prog 8 #[.string s] w fun e w' => ReadAns s e ∧ Below w.heap.size w w' := by
  have hz := zero_nat.1
  have HT : Hid (Tab w.heap.size w) := hT
  clear hT
  go_enter Tryd.func8, Tryd.ntmps8
  go_wp2_with fail
  refine (cutRadix_any s _ hs).mono ?_
  rintro e w0 ⟨⟨t, b, r, rfl, hrb, hr0, hr1, hRC, hts⟩, hW0⟩
  have HRC := hideT' hRC
  have HRB := hideT' hrb
  have HBB : Hid (b ≠ 0) := by unfold Hid; omega
  clear hRC hrb
  go_wp2_with fail
  refine (cutSign_any t _ (Nat.le_trans hts hs)).mono ?_
  rintro e w1 ⟨⟨u, rfl, hu, hus⟩, hW1⟩
  have HU := hideT' hu
  clear hu
  obtain ⟨ng, hng⟩ : ∃ ng, ng = (sigN t.data.toList).1 := ⟨_, rfl⟩
  rw [← hng]
  have HNG := hideT' hng
  clear hng
  go_wp2_with fail
  refine (cut_any u _ (Nat.le_trans hus (Nat.le_trans hts hs))).mono ?_
  rintro e w2 ⟨o, v, rfl, ho, hv, hW2⟩
  have hW2 : Below w.heap.size w w2 := hW0.trans ((hW1.trans (hW2.mono hW1.size)).mono hW0.size)
  clear hW0 hW1
  have hul : u.data.toList.length = u.size := by simp
  have hcs := cut_size u.data.toList
  have hos : o.size ≤ maxLen := len_le (by rw [ho]; omega)
  have hvs : v.size ≤ maxLen := len_le (by rw [hv]; omega)
  rw [HU.out] at ho hv ⊢
  have HO : Hid (o.data.toList = coTop t.data.toList) := ho
  have HV : Hid (v.data.toList = coUnd t.data.toList) := hv
  obtain ⟨bk, hbk⟩ : ∃ bk, bk = (cut47 (sigN t.data.toList).2).2.2 := ⟨_, rfl⟩
  rw [← hbk]
  have HBK : Hid (bk = coBrk t.data.toList) := hbk
  clear ho hv hul hcs hbk HU hs hts hus
  go_upto_if 30 with fail
  go_cut [7] (fun x wx => ∃ bt : ByteArray, x = .string bt ∧ Hid (bt.data.toList = coBot t.data.toList) ∧ bt.size ≤ maxLen ∧ wx = w2)
  case first =>
    cases bk with
    | true =>
      have HX : Hid (v.data.toList = coBot t.data.toList) := by unfold Hid coBot; rw [← HBK.out, if_pos rfl]; exact HV.out
      go_wp2
      go_meet
      case rel => exact ⟨v, rfl, HX, hvs, rfl⟩
    | false =>
      have HX : Hid (([49] : List UInt8) = coBot t.data.toList) := by unfold Hid coBot; rw [← HBK.out]; rfl
      go_wp2
      go_meet
      case rel => exact ⟨⟨#[49]⟩, rfl, HX, by decide, rfl⟩
  case rest =>
    obtain ⟨bt, rfl, HBT, hbs, rfl⟩ := hcut
    clear HV HBK hvs
    have NO : Hid (coOk b t.data.toList = false → ReadAns s (.returned (.tuple #[.string ⟨#[]⟩, .bool false]))) := fun h => ReadAns.mk' HRC.out HBB.out (.inr ⟨h, rfl⟩)
    by_cases h6 : (o.size : Int) ≤ 600 ∧ (bt.size : Int) ≤ 600
    · obtain ⟨h61, h62⟩ := h6
      have n61 : ¬ (600 : Int) < (o.size : Int) := by omega
      have n62 : ¬ (600 : Int) < (bt.size : Int) := by omega
      have HD1 : Hid (rdOk b o = rdDig b (coTop t.data.toList)) := by unfold Hid; rw [rdOk_dig (by have := HRB.out; omega) (by omega), HO.out]
      have HD2 : Hid (rdOk b bt = rdDig b (coBot t.data.toList)) := by unfold Hid; rw [rdOk_dig (by have := HRB.out; omega) (by omega), HBT.out]
      go_wp2_with fail
      refine (readDigits_any o b r _ hos HRB.out hr0 hr1).mono ?_
      rintro e w3 ⟨k, p, rfl, hp, hRp, hW3⟩
      have hs2 := hW2.size
      have hs3 := hW3.size
      have A := NatAt.new w3 0 zP
      have hB3 : Below w.heap.size w (w3.alloc (.cells (natC 0 zP) 35)) := (hW2.trans (hW3.mono hs2)).alloc (by omega) _
      obtain ⟨oa, hoa⟩ : ∃ oa, oa = rdOk b o := ⟨_, rfl⟩
      rw [← hoa] at hRp ⊢
      have HRP : Hid (oa = true → Rep (rval b o.data.toList) k p) := hRp
      have HOA : Hid (oa = rdDig b (coTop t.data.toList)) := by unfold Hid; rw [hoa]; exact HD1.out
      clear hRp hoa HD1
      go_wp2_with (refine store_nat rfl _ _ rfl rfl w3.heap.size k p rfl rfl 0 zP A zP_len hp ?_; intro w4 hN4 hg4 hs4)
      have hB4 : Below w.heap.size w w4 := hB3.grown hg4 (by simp; omega) (by intro k hk; cases hk; omega)
      have hs4' : w4.heap.size = w3.heap.size + 1 := by rw [hs4]; simp
      clear A hB3 hg4 hs4
      refine (readDigits_any bt b r _ hbs HRB.out hr0 hr1).mono ?_
      rintro e w5 ⟨m, q, rfl, hq, hRq, hW5⟩
      have hs5 := hW5.size
      have hN5 := hN4.below hW5 (by omega)
      have B := NatAt.new w5 0 zP
      have hB5 : Below w.heap.size w (w5.alloc (.cells (natC 0 zP) 35)) := (hB4.trans (hW5.mono hB4.size)).alloc (by omega) _
      obtain ⟨ob, hob⟩ : ∃ ob, ob = rdOk b bt := ⟨_, rfl⟩
      rw [← hob] at hRq ⊢
      have HRQ : Hid (ob = true → Rep (rval b bt.data.toList) m q) := hRq
      have HOB : Hid (ob = rdDig b (coBot t.data.toList)) := by unfold Hid; rw [hob]; exact HD2.out
      have hN6 := hN5.old (.cells (natC 0 zP) 35)
      clear hRq hob HD2 hN4 hB4 hW5 hN5
      cases oa with
      | false =>
        have HF := hideT' (NO.out (by unfold coOk; rw [← HOA.out]; rfl))
        go_wp2_with (refine store_nat rfl _ _ rfl rfl w5.heap.size m q rfl rfl 0 zP B zP_len hq ?_; intro w6 hM6 hg6 hs6; have c0 := hM6.c0)
        go_ret2
        exact ⟨HF.out, hB5.grown hg6 (by simp; omega) (by intro k hk; cases hk; omega)⟩
      | true =>
        cases ob with
        | false =>
          have HF := hideT' (NO.out (by unfold coOk; rw [← HOB.out, Bool.and_false]; rfl))
          go_wp2_with (refine store_nat rfl _ _ rfl rfl w5.heap.size m q rfl rfl 0 zP B zP_len hq ?_; intro w6 hM6 hg6 hs6; have c0 := hM6.c0)
          go_ret2
          exact ⟨HF.out, hB5.grown hg6 (by simp; omega) (by intro k hk; cases hk; omega)⟩
        | true =>
          have RA : Hid (Rep (rval b (coTop t.data.toList)) k p ∧ Rep (rval b (coBot t.data.toList)) m q) := ⟨by rw [← HO.out]; exact HRP.out rfl, by rw [← HBT.out]; exact HRQ.out rfl⟩
          by_cases hm0 : m = 0
          · have HF := hideT' (NO.out (by unfold coOk; rw [RA.out.2.zero_iff.1 hm0, Bool.and_eq_false_iff]; right; rfl))
            have hm0' : ((m : Int) == 0) = true := by simp [hm0]
            subst hm0
            go_wp2_with (refine store_nat rfl _ _ rfl rfl w5.heap.size _ q rfl rfl 0 zP B zP_len hq ?_; intro w6 hM6 hg6 hs6; have c0 := hM6.c0)
            go_ret2
            exact ⟨HF.out, hB5.grown hg6 (by simp; omega) (by intro k hk; cases hk; omega)⟩
          · have hm0' : ((m : Int) == 0) = false := by simp [hm0]
            have HOK : Hid (coOk b t.data.toList = true) := by
              unfold Hid coOk
              have h1 : rval b (coBot t.data.toList) ≠ 0 := fun e => hm0 (RA.out.2.zero_iff.2 e)
              rw [← HOA.out, ← HOB.out, decide_eq_true h1]; rfl
            have HS : Hid (decide (0 < k) = decide (rval b (coTop t.data.toList) ≠ 0)) := by
              unfold Hid
              have h := RA.out.1.zero_iff
              by_cases e : k = 0
              · rw [decide_eq_false (by omega), decide_eq_false (by have := h.1 e; omega)]
              · rw [decide_eq_true (by omega), decide_eq_true (show rval b (coTop t.data.toList) ≠ 0 from fun e' => e (h.2 e'))]
            have hk : k ≤ 202 := by
              have h1 : rdOk b o = true := by rw [rdOk_dig (by have := HRB.out; omega) (by omega), HO.out, ← HOA.out]
              unfold rdOk at h1
              simp only [Bool.and_eq_true, decide_eq_true_eq] at h1
              have := RA.out.1.fits2.2 (by rw [← HO.out]; exact h1.2.2)
              omega
            have hm : m ≤ 202 := by
              have h1 : rdOk b bt = true := by rw [rdOk_dig (by have := HRB.out; omega) (by omega), HBT.out, ← HOB.out]
              unfold rdOk at h1
              simp only [Bool.and_eq_true, decide_eq_true_eq] at h1
              have := RA.out.2.fits2.2 (by rw [← HBT.out]; exact h1.2.2)
              omega
            clear NO HRP HRQ HOA HOB
            go_wp2_with (first | (refine store_nat rfl _ _ rfl rfl w5.heap.size m q rfl rfl 0 zP B zP_len hq ?_; intro w6 hM6 hg6 hs6; have c0 := hM6.c0))
            have hs6' : w6.heap.size = w5.heap.size + 1 := by rw [hs6]; simp
            have hN7 := hN6.grown hg6 (by simp; omega)
            have hB6 : Below w.heap.size w w6 := hB5.grown hg6 (by simp; omega) (by intro k hk; cases hk; omega)
            clear B hB5 hN6 hg6 hs6 c0
            refine held_begin (fun w' => NatAt w' w3.heap.size k p ∧ NatAt w' w5.heap.size m q) (by kernel_rfl) ?_
            have hS : NatAt w6.drew w3.heap.size k p ∧ NatAt w6.drew w5.heap.size m q := ⟨hN7, hM6⟩
            refine held_val 0 (some 62) rfl rfl (by kernel_rfl) (by kernel_rfl) (by kernel_rfl) noPanic_put rfl (.bool ng) (fun _ => rfl) hS ?_
            simp only [Act.put, List.setIfInBounds_toArray, List.set_cons_zero, List.set_cons_succ]
            refine held_load 1 (some 63) rfl rfl (by kernel_rfl) (by kernel_rfl) (by kernel_rfl) noPanic_put rfl _ rfl w3.heap.size rfl k p (fun _ h => h.1) hp hS ?_
            simp only [Act.put, List.setIfInBounds_toArray, List.set_cons_zero, List.set_cons_succ]
            refine held_load 3 (some 65) rfl rfl (by kernel_rfl) (by kernel_rfl) (by kernel_rfl) noPanic_put rfl _ rfl w5.heap.size rfl m q (fun _ h => h.2) hq hS ?_
            simp only [Act.put, List.setIfInBounds_toArray, List.set_cons_zero, List.set_cons_succ]
            refine held_call 2 (some 64) (by kernel_rfl) rfl rfl rfl 19 #[.bool ng, .agg (natC k p)] (by go_simp) _ (wholeOf_any ng k p w6.drew hp) ?_
            rintro e w7 ⟨rfl, hW7⟩
            have hW7 : Below w6.heap.size w6 w7 := ⟨hW7.os, hW7.tape, hW7.output, hW7.size, hW7.block⟩
            have hS7 : NatAt w7 w3.heap.size k p ∧ NatAt w7 w5.heap.size m q := ⟨hN7.below hW7 (by omega), hM6.below hW7 (by omega)⟩
            have hB7 : Below w.heap.size w w7 := hB6.trans (hW7.mono hB6.size)
            have hs7 := hW7.size
            refine ⟨_, rfl, hS7, ?_⟩
            simp only [Act.put, List.setIfInBounds_toArray, List.set_cons_zero, List.set_cons_succ]
            refine held_call 4 (some 66) (by kernel_rfl) rfl rfl rfl 18 #[.agg (wholeC (ng && decide (0 < k)) k p), .agg (natC m q)] (by go_simp) _ (fraction_any (ng && decide (0 < k)) w7 RA.out.1 RA.out.2 (by omega) (by omega) (by omega)) ?_
            rintro e w8 ⟨i, l, r1, s1, rfl, hR1, hR2, hW8⟩
            have hS8 : NatAt w8 w3.heap.size k p ∧ NatAt w8 w5.heap.size m q := ⟨hS7.1.below hW8 (by omega), hS7.2.below hW8 (by omega)⟩
            have hB8 : Below w.heap.size w w8 := hB7.trans (hW8.mono hB7.size)
            have HT8 : Hid (Tab w8.heap.size w8) := (HT.out.on hB8).up hB8.size
            have hs8 := hW8.size
            refine ⟨_, rfl, hS8, ?_⟩
            simp only [Act.put, List.setIfInBounds_toArray, List.set_cons_zero, List.set_cons_succ]
            refine held_call 5 (some 67) (by kernel_rfl) rfl rfl rfl 17 #[.agg (numC (ng && decide (0 < k)) i r1 l s1)] (by go_simp) _ (tellNum_any (ng && decide (0 < k)) w8 hR1 hR2 HT8.out) ?_
            rintro e w9 ⟨hTN, hW9⟩
            have hTN' := hTN
            rw [HS.out, HNG.out] at hTN'
            have HA := hideT' (ReadAns.mk' HRC.out HBB.out (.inl ⟨HOK.out, hTN'⟩))
            obtain ⟨z, zo, rfl⟩ := hTN.form3
            clear hTN hTN'
            have hS9 : NatAt w9 w3.heap.size k p ∧ NatAt w9 w5.heap.size m q := ⟨hS8.1.below hW9 (by omega), hS8.2.below hW9 (by omega)⟩
            have hB9 : Below w.heap.size w w9 := hB8.trans (hW9.mono hB8.size)
            refine ⟨_, rfl, hS9, ?_⟩
            simp only [Act.put, List.setIfInBounds_toArray, List.set_cons_zero, List.set_cons_succ]
            refine held_val 6 (some 68) rfl rfl (by kernel_rfl) (by kernel_rfl) (by kernel_rfl) noPanic_put rfl (.string z) (fun _ => rfl) hS9 ?_
            simp only [Act.put, List.setIfInBounds_toArray, List.set_cons_zero, List.set_cons_succ]
            refine held_val 7 (some 69) rfl rfl (by kernel_rfl) (by kernel_rfl) (by kernel_rfl) noPanic_put rfl (.bool zo) (fun _ => rfl) hS9 ?_
            simp only [Act.put, List.setIfInBounds_toArray, List.set_cons_zero, List.set_cons_succ]
            refine held_assign 8 (some 2) (by kernel_rfl) rfl rfl _ rfl rfl (.string z) rfl hS9 ?_
            simp only [Act.put, List.setIfInBounds_toArray, List.set_cons_zero, List.set_cons_succ]
            refine held_assign 9 (some 3) (by kernel_rfl) rfl rfl _ rfl rfl (.bool zo) rfl hS9 ?_
            simp only [Act.put, List.setIfInBounds_toArray, List.set_cons_zero, List.set_cons_succ]
            refine wpAnyH_done (by kernel_rfl) ?_ _
            refine NoPanic.normal ?_
            go_wp2
            go_ret2
            exact ⟨HA.out, hB9⟩
    · have HF := hideT' (NO.out (by
        unfold coOk rdDig
        have l1 : (coTop t.data.toList).length = o.size := by rw [← HO.out]; simp
        have l2 : (coBot t.data.toList).length = bt.size := by rw [← HBT.out]; simp
        rw [l1, l2]
        by_cases e : o.size ≤ 600
        · rw [decide_eq_false (show ¬ bt.size ≤ 600 by omega)]; simp
        · rw [decide_eq_false e]; simp))
      by_cases e : (600 : Int) < (o.size : Int)
      · go_wp2
        go_ret2
        exact ⟨HF.out, hW2⟩
      · have e2 : (600 : Int) < (bt.size : Int) := by omega
        go_wp2
        go_ret2
        exact ⟨HF.out, hW2⟩
end Go.Proofs.YtjgpjafndaikcaaDoor

/-
  What times of impl's nats answers.
-/
namespace Go.Proofs.YtjgpjafndaikcaaDoor
open Go.RowKit
set_option linter.unusedVariables false

/-- The products of the parts of p below i with those of q below j, added up from Z on. -/
def rowsTo (Z p q : List Int) (j : Nat) : Nat → List Int
  | 0 => Z
  | i + 1 => subTo (rowsTo Z p q j i) q (-(p.getD i 0)) i j

theorem rowsTo_len (Z p q : List Int) (j i : Nat) : (rowsTo Z p q j i).length = Z.length := by
  induction i with
  | zero => rfl
  | succ i ih => simp [rowsTo, subTo_len, ih]

theorem subTo_add (p q : List Int) (m : Int) (u j i : Nat) (hj : u + j ≤ p.length) : (subTo p q (-m) u j).getD i 0 = if u ≤ i ∧ i < u + j then p.getD i 0 + m * q.getD (i - u) 0 else p.getD i 0 := by
  rw [subTo_get _ _ _ _ _ _ hj]
  split
  · rw [Int.neg_mul]; omega
  · rfl

theorem mul_bd {x y B : Int} (hx : 0 ≤ x) (hx1 : x < B) (hy : 0 ≤ y) (hy1 : y < B) : 0 ≤ x * y ∧ x * y ≤ B * B := by
  refine ⟨Int.mul_nonneg hx hy, ?_⟩
  have h1 : x * y ≤ B * y := Int.mul_le_mul_of_nonneg_right (by omega) hy
  have h2 : B * y ≤ B * B := Int.mul_le_mul_of_nonneg_left (by omega) (by omega)
  omega

/-- Bounds while a row is being added. -/
theorem part_bd (Z p q : List Int) (B : Int) (j i t x : Nat) (hB : 0 < B) (hZ : ∀ x, Z.getD x 0 = 0) (hp : ∀ x, 0 ≤ p.getD x 0 ∧ p.getD x 0 < B) (hq : ∀ x, 0 ≤ q.getD x 0 ∧ q.getD x 0 < B) (hlen : i + j ≤ Z.length) (ht : i + t ≤ Z.length)
    (ih : ∀ x, 0 ≤ (rowsTo Z p q j i).getD x 0 ∧ (rowsTo Z p q j i).getD x 0 ≤ (i : Int) * (B * B)) :
    0 ≤ (subTo (rowsTo Z p q j i) q (-(p.getD i 0)) i t).getD x 0 ∧ (subTo (rowsTo Z p q j i) q (-(p.getD i 0)) i t).getD x 0 ≤ ((i + 1 : Nat) : Int) * (B * B) := by
  rw [subTo_add _ _ _ _ _ _ (by rw [rowsTo_len]; exact ht)]
  have h1 := ih x
  have h2 := hp i
  have h3 := hq (x - i)
  have h4 := mul_bd h2.1 h2.2 h3.1 h3.2
  have h5 : 0 ≤ B * B := Int.mul_nonneg (by omega) (by omega)
  have e : ((i + 1 : Nat) : Int) * (B * B) = (i : Int) * (B * B) + B * B := by rw [Int.natCast_add, Int.add_mul]; simp
  split <;> omega

theorem rowsTo_bd (Z p q : List Int) (B : Int) (j i : Nat) (hB : 0 < B) (hZ : ∀ x, Z.getD x 0 = 0) (hp : ∀ x, 0 ≤ p.getD x 0 ∧ p.getD x 0 < B) (hq : ∀ x, 0 ≤ q.getD x 0 ∧ q.getD x 0 < B) (hlen : i + j ≤ Z.length) :
    ∀ x, 0 ≤ (rowsTo Z p q j i).getD x 0 ∧ (rowsTo Z p q j i).getD x 0 ≤ (i : Int) * (B * B) := by
  induction i with
  | zero => intro x; simp only [rowsTo]; rw [hZ x]; simp
  | succ i ih => intro x; exact part_bd Z p q B j i j x hB hZ hp hq (by omega) (by omega) (ih (by omega))

theorem rowsTo_zero (Z p q : List Int) (j i : Nat) (hZ : ∀ x, Z.getD x 0 = 0) (hlen : i + j ≤ Z.length) : ∀ x, i + j ≤ x → (rowsTo Z p q j i).getD x 0 = 0 := by
  induction i with
  | zero => intro x _; exact hZ x
  | succ i ih =>
    intro x hx
    simp only [rowsTo]
    rw [subTo_get _ _ _ _ _ _ (by rw [rowsTo_len]; omega), if_neg (by omega)]
    exact ih (by omega) x (by omega)

theorem rowsTo_val (B : Int) (Z p q : List Int) (j i : Nat) (hZ : ∀ x, Z.getD x 0 = 0) (hlen : i + j ≤ Z.length + 1) (hl : ∀ k, k < i → k + j ≤ Z.length) (hi : i ≤ p.length) (hj : j ≤ q.length) : vb B (rowsTo Z p q j i) = vb B (p.take i) * vb B (q.take j) := by
  induction i with
  | zero => simp only [rowsTo]; rw [vb_zero _ _ hZ]; simp [vb]
  | succ i ih =>
    simp only [rowsTo]
    rw [subTo_val _ _ _ _ _ _ (by rw [rowsTo_len]; exact hl i (by omega)) hj, ih (by omega) (fun k hk => hl k (by omega)) (by omega), List.take_succ_eq_append_getElem (by omega), vb_snoc]
    have : p.getD i 0 = p[i] := by simp [List.getD, show i < p.length by omega]
    rw [this, List.length_take, Nat.min_eq_left (by omega), Int.add_mul, Int.neg_mul]
    have e : p[i] * (B ^ i * vb B (q.take j)) = B ^ i * p[i] * vb B (q.take j) := by
      rw [← Int.mul_assoc, Int.mul_comm p[i] (B ^ i)]
    omega

end Go.Proofs.YtjgpjafndaikcaaDoor

/-
  What spec.l1Mul and spec.MulNat answer.
-/
namespace Go.Proofs.YtjgpjafndaikcaaDoor
open Go.RowKit
set_option linter.unusedVariables false

theorem info_int : (Tryd.prog.info? 3).map (fun i => (i.zero, i.size, i.bytes)) = some (some (.int .i64 0), 1, 8) := by kernel_rfl

theorem made_zeros (z : Value) (n : Nat) : (madeCells #[z] n).toList = List.replicate n z := by
  apply List.ext_getElem
  · simp [madeCells]
  · intro i h1 h2
    simp [madeCells, Nat.mod_one]

theorem made_own (w : World) (B n : Nat) (hB : B ≤ w.heap.size) (hn : n ≤ maxLen) : (w.alloc (.cells (madeCells #[.int .i64 0] n) 3)).ownsRow B 3 1 (.slice (some ⟨w.heap.size, 0, none⟩) n n) n (ints (List.replicate n 0)) := by
  refine ⟨by simp [ints], .inr ⟨w.heap.size, n, _, rfl, hB, (Array.getElem?_push_size (xs := w.heap) (x := .cells (madeCells #[.int .i64 0] n) 3)), Nat.le_refl _, hn, by simp [size_madeCells], ?_⟩⟩
  rw [made_zeros]
  simp [ints]

theorem own_lt {w : World} {B g n c : Nat} {l : List Int} (h : w.ownsRow B 3 1 (.slice (some ⟨g, 0, none⟩) n c) n (ints l)) (hn : 0 < n) : B ≤ w.heap.size := by
  obtain ⟨g', c', e, h1, h2, _⟩ := own_form h hn
  omega

theorem zeros_get (n : Nat) : ∀ x, (List.replicate n (0 : Int)).getD x 0 = 0 := by
  intro x
  simp only [List.getD, List.getElem?_replicate]
  split <;> rfl

theorem mul_lt_pow (k j : Nat) {a b : Nat} (ha : a < 10 ^ k) (hb : b < 10 ^ j) : a * b < 10 ^ (k + j) := by
  rw [Nat.pow_add]
  exact Nat.mul_lt_mul'' ha hb

end Go.Proofs.YtjgpjafndaikcaaDoor

/-
  What spec.PowNat answers.
-/
namespace Go.Proofs.YtjgpjafndaikcaaDoor
open Go.RowKit
set_option linter.unusedVariables false

theorem l1In_any (n lo hi : Int) (w : World) :
    Calls Tryd.prog 11 #[.int .i64 n, .int .i64 lo, .int .i64 hi] w fun e w' => e = .returned (.bool (decide (lo ≤ n) && decide (n ≤ hi))) ∧ w' = w := by
  by_cases h : lo ≤ n
  · by_cases h' : n ≤ hi
    · rw [decide_eq_true h, decide_eq_true h']
      go_enter Tryd.func11, Tryd.ntmps11
      go_wp2
      go_ret
      exact ⟨rfl, rfl⟩
    · rw [decide_eq_true h, decide_eq_false h']
      go_enter Tryd.func11, Tryd.ntmps11
      go_wp2
      go_ret
      exact ⟨rfl, rfl⟩
  · rw [decide_eq_false h]
    go_enter Tryd.func11, Tryd.ntmps11
    go_wp2
    go_ret
    exact ⟨rfl, rfl⟩

/-- May a be raised to n? -/
def powOk (a : ByteArray) (n : Int) : Bool := goodB a.data.toList && (decide (0 ≤ n) && decide (n ≤ 2000))

theorem Tells.big {n m : Nat} {e : Ending} (h : Tells n e) (hn : ¬ n < 10 ^ 600) (hm : ¬ m < 10 ^ 600) : Tells m e := by
  obtain ⟨s, rfl, h1, h2⟩ := h
  have := h2 hn
  subst this
  exact ⟨⟨#[]⟩, by rw [decide_eq_false hn, decide_eq_false hm], fun h => absurd h hm, fun _ => rfl⟩

theorem pow_zero_of {A j N : Nat} (h : A ^ j = 0) (hj : j ≤ N) : A ^ N = 0 := by
  have hA : A = 0 ∧ j ≠ 0 := by
    by_cases hA : A = 0
    · refine ⟨hA, fun e => ?_⟩
      subst e; simp at h
    · have := Nat.pow_pos (n := j) (Nat.pos_of_ne_zero hA); omega
  obtain ⟨rfl, hj0⟩ := hA
  exact Nat.zero_pow (by omega)

theorem pow_big_of {A j N : Nat} (B : Nat) (hB : 1 < B) (h : ¬ A ^ j < B) (hj : j ≤ N) : ¬ A ^ N < B := by
  by_cases hA : A = 0
  · subst hA
    by_cases e : j = 0
    · subst e
      simp only [Nat.pow_zero] at h
      by_cases e' : N = 0
      · subst e'; simpa using h
      · omega
    · rw [Nat.zero_pow (by omega)] at h; omega
  · have := Nat.pow_le_pow_right (Nat.pos_of_ne_zero hA) hj
    omega

theorem one_lt_ten (k : Nat) (hk : k ≠ 0) : 1 < 10 ^ k := Nat.one_lt_pow hk (by decide)

theorem pow_tells {A j N : Nat} {e : Ending} (hT : Tells (A ^ j) e) (hj : j ≤ N) (h : j = N ∨ A ^ j = 0 ∨ ¬ A ^ j < 10 ^ 600 ∨ A = 1) : Tells (A ^ N) e := by
  rcases h with rfl | h | h | rfl
  · exact hT
  · rw [pow_zero_of h hj]; rw [h] at hT; exact hT
  · by_cases hA : ¬ A ^ N < 10 ^ 600
    · exact hT.big h hA
    · exact absurd (Decidable.not_not.1 hA) (pow_big_of _ (one_lt_ten 600 (by decide)) h hj)
  · simpa using hT

end Go.Proofs.YtjgpjafndaikcaaDoor

/-
  What a symbol is: plain facts, and what is told of a byte and of a text's bytes.
-/
namespace Go.Proofs.YtjgpjafndaikcaaDoor
open Go.RowKit
set_option linter.unusedVariables false

/-- The signs that may stand in a symbol. -/
def marks : List UInt8 := [33, 36, 37, 38, 42, 47, 58, 60, 61, 62, 63, 94, 95, 126, 43, 45, 46, 64]
def letB (n : Nat) : Bool := ((decide (97 ≤ n) && decide (n ≤ 122)) || (decide (65 ≤ n) && decide (n ≤ 90))) || (decide (48 ≤ n) && decide (n ≤ 57))
def symB (c : UInt8) : Bool := letB c.toNat || marks.contains c
theorem letB_yes {n : Nat} (h : (97 ≤ n ∧ n ≤ 122) ∨ (65 ≤ n ∧ n ≤ 90) ∨ (48 ≤ n ∧ n ≤ 57)) : letB n = true := by
  unfold letB; simp; omega
theorem letB_no {n : Nat} (h : ¬ ((97 ≤ n ∧ n ≤ 122) ∨ (65 ≤ n ∧ n ≤ 90) ∨ (48 ≤ n ∧ n ≤ 57))) : letB n = false := by
  unfold letB; simp; omega
theorem sym_yes {c : UInt8} (h : letB c.toNat = true) : symB c = true := by unfold symB; rw [h]; rfl
theorem sym_no {c : UInt8} (h : letB c.toNat = false) : symB c = marks.contains c := by unfold symB; rw [h]; rfl

theorem index_marks (c : UInt8) : decide (0 ≤ Lib.indexByte marks c) = marks.contains c := by
  by_cases h : 0 ≤ Lib.indexByte marks c
  · obtain ⟨i, hi⟩ : ∃ i : Nat, Lib.indexByte marks c = (i : Int) := ⟨(Lib.indexByte marks c).toNat, by omega⟩
    obtain ⟨h1, _⟩ := Lib.indexByte_some hi
    rw [decide_eq_true h]
    symm
    rw [List.contains_iff_mem]
    exact List.mem_of_getElem? h1
  · have hge := Lib.indexByte_ge marks c
    have h1 : Lib.indexByte marks c = -1 := by omega
    have h2 := Lib.indexByte_none h1
    rw [decide_eq_false h]
    symm
    rw [Bool.eq_false_iff]
    intro hc
    rw [List.contains_iff_mem] at hc
    obtain ⟨i, hi⟩ := List.getElem?_of_mem hc
    exact h2 i hi

set_option maxHeartbeats 1000000 in
set_option maxRecDepth 100000 in
theorem inSymbol_any (c : UInt8) (x : Int) (w : World) (hx : x = (c.toNat : Int)) :
    Calls Tryd.prog 12 #[.int .u8 x] w fun e w' => e = .returned (.bool (symB c)) ∧ w' = w := by
  have HX := hideT' hx
  have hlt : x ≤ 255 := by have := c.toNat_lt; omega
  have h0 : 0 ≤ x := by omega
  cases hl : letB c.toNat with
  | true =>
    have HS := hideT' (sym_yes hl)
    have hr : (97 ≤ x ∧ x ≤ 122) ∨ (65 ≤ x ∧ x ≤ 90) ∨ (48 ≤ x ∧ x ≤ 57) := by
      unfold letB at hl; simp at hl; omega
    clear hl hx
    rcases hr with ⟨h1, h2⟩ | ⟨h1, h2⟩ | ⟨h1, h2⟩
    · go_enter Tryd.func12, Tryd.ntmps12
      go_wp2
      go_ret
      exact ⟨by rw [HS.out]; rfl, rfl⟩
    · have h3 : ¬ 97 ≤ x := by omega
      go_enter Tryd.func12, Tryd.ntmps12
      go_wp2
      go_ret
      exact ⟨by rw [HS.out]; rfl, rfl⟩
    · have h3 : ¬ 97 ≤ x := by omega
      have h4 : ¬ 65 ≤ x := by omega
      go_enter Tryd.func12, Tryd.ntmps12
      go_wp2
      go_ret
      exact ⟨by rw [HS.out]; rfl, rfl⟩
  | false =>
    have HS := hideT' (sym_no hl)
    have hr : (122 < x) ∨ (x < 97 ∧ 90 < x) ∨ (x < 65 ∧ 57 < x) ∨ x < 48 := by
      unfold letB at hl; simp at hl; omega
    have hc : x.toNat.toUInt8 = c := by rw [hx, Int.toNat_natCast]; exact UInt8.ofNat_toNat
    obtain ⟨y, hy⟩ : ∃ y, y = Lib.indexByte marks c := ⟨_, rfl⟩
    have HI : Hid (decide (0 ≤ y) = symB c) := by unfold Hid; rw [HS.out, hy]; exact index_marks c
    have HC : Hid (∀ e : Ending, e = .returned (.int .i64 (Lib.indexByte marks x.toNat.toUInt8)) → e = .returned (.int .i64 y)) := fun e he => by rw [he, hc, hy]
    clear hl hx hc hy HS
    (
      rcases hr with h1 | ⟨h1, h2⟩ | ⟨h1, h2⟩ | h1
      · have g1 : 97 ≤ x := by omega
        have g2 : ¬ x ≤ 122 := by omega
        have g3 : 65 ≤ x := by omega
        have g4 : ¬ x ≤ 90 := by omega
        have g5 : 48 ≤ x := by omega
        have g6 : ¬ x ≤ 57 := by omega
        go_enter Tryd.func12, Tryd.ntmps12
        go_wp2_with fail
        refine (Tryd.strings_IndexByte _ x _).mono ?_
        rintro e w' ⟨he, rfl⟩
        obtain rfl := HC.out e he
        go_wp2
        go_ret
        exact ⟨by rw [← HI.out]; rfl, rfl⟩
      · have g1 : ¬ 97 ≤ x := by omega
        have g3 : 65 ≤ x := by omega
        have g4 : ¬ x ≤ 90 := by omega
        have g5 : 48 ≤ x := by omega
        have g6 : ¬ x ≤ 57 := by omega
        go_enter Tryd.func12, Tryd.ntmps12
        go_wp2_with fail
        refine (Tryd.strings_IndexByte _ x _).mono ?_
        rintro e w' ⟨he, rfl⟩
        obtain rfl := HC.out e he
        go_wp2
        go_ret
        exact ⟨by rw [← HI.out]; rfl, rfl⟩
      · have g1 : ¬ 97 ≤ x := by omega
        have g3 : ¬ 65 ≤ x := by omega
        have g5 : 48 ≤ x := by omega
        have g6 : ¬ x ≤ 57 := by omega
        go_enter Tryd.func12, Tryd.ntmps12
        go_wp2_with fail
        refine (Tryd.strings_IndexByte _ x _).mono ?_
        rintro e w' ⟨he, rfl⟩
        obtain rfl := HC.out e he
        go_wp2
        go_ret
        exact ⟨by rw [← HI.out]; rfl, rfl⟩
      · have g1 : ¬ 97 ≤ x := by omega
        have g3 : ¬ 65 ≤ x := by omega
        have g5 : ¬ 48 ≤ x := by omega
        go_enter Tryd.func12, Tryd.ntmps12
        go_wp2_with fail
        refine (Tryd.strings_IndexByte _ x _).mono ?_
        rintro e w' ⟨he, rfl⟩
        obtain rfl := HC.out e he
        go_wp2
        go_ret
        exact ⟨by rw [← HI.out]; rfl, rfl⟩)

theorem marks_get (k : Nat) (h : k < 18) (h' : k < (⟨#[33, 36, 37, 38, 42, 47, 58, 60, 61, 62, 63, 94, 95, 126, 43, 45, 46, 64]⟩ : ByteArray).size) : (⟨#[33, 36, 37, 38, 42, 47, 58, 60, 61, 62, 63, 94, 95, 126, 43, 45, 46, 64]⟩ : ByteArray)[k] = marks[k]'h := rfl

set_option maxHeartbeats 1000000 in
set_option maxRecDepth 100000 in
theorem l3SymbolByte_any (c : UInt8) (x : Int) (w : World) (hx : x = (c.toNat : Int)) :
    Calls Tryd.prog 9 #[.int .u8 x] w fun e w' => e = .returned (.bool (symB c)) ∧ w' = w := by
  have HX := hideT' hx
  have hlt : x ≤ 255 := by have := c.toNat_lt; omega
  have h0 : 0 ≤ x := by omega
  cases hl : letB c.toNat with
  | true =>
    have HS := hideT' (sym_yes hl)
    have hr : (97 ≤ x ∧ x ≤ 122) ∨ (65 ≤ x ∧ x ≤ 90) ∨ (48 ≤ x ∧ x ≤ 57) := by
      unfold letB at hl; simp at hl; omega
    clear hl hx
    rcases hr with ⟨h1, h2⟩ | ⟨h1, h2⟩ | ⟨h1, h2⟩
    · go_enter Tryd.func9, Tryd.ntmps9
      go_wp2
      go_ret
      exact ⟨by rw [HS.out]; rfl, rfl⟩
    · have h3 : ¬ 97 ≤ x := by omega
      go_enter Tryd.func9, Tryd.ntmps9
      go_wp2
      go_ret
      exact ⟨by rw [HS.out]; rfl, rfl⟩
    · have h3 : ¬ 97 ≤ x := by omega
      have h4 : ¬ 65 ≤ x := by omega
      go_enter Tryd.func9, Tryd.ntmps9
      go_wp2
      go_ret
      exact ⟨by rw [HS.out]; rfl, rfl⟩
  | false =>
    have HS := hideT' (sym_no hl)
    have hr : (122 < x) ∨ (x < 97 ∧ 90 < x) ∨ (x < 65 ∧ 57 < x) ∨ x < 48 := by
      unfold letB at hl; simp at hl; omega
    clear hl hx
    go_enter Tryd.func9, Tryd.ntmps9
    go_upto_region 1 with fail
    go_cut [25] (fun x wx => x = .bool false ∧ wx = w)
    case first =>
      rcases hr with h1 | ⟨h1, h2⟩ | ⟨h1, h2⟩ | h1
      · have g1 : 97 ≤ x := by omega
        have g2 : ¬ x ≤ 122 := by omega
        have g3 : 65 ≤ x := by omega
        have g4 : ¬ x ≤ 90 := by omega
        have g5 : 48 ≤ x := by omega
        have g6 : ¬ x ≤ 57 := by omega
        go_wp2
        go_meet
        case rel => exact ⟨rfl, rfl⟩
      · have g1 : ¬ 97 ≤ x := by omega
        have g3 : 65 ≤ x := by omega
        have g4 : ¬ x ≤ 90 := by omega
        have g5 : 48 ≤ x := by omega
        have g6 : ¬ x ≤ 57 := by omega
        go_wp2
        go_meet
        case rel => exact ⟨rfl, rfl⟩
      · have g1 : ¬ 97 ≤ x := by omega
        have g3 : ¬ 65 ≤ x := by omega
        have g5 : 48 ≤ x := by omega
        have g6 : ¬ x ≤ 57 := by omega
        go_wp2
        go_meet
        case rel => exact ⟨rfl, rfl⟩
      · have g1 : ¬ 97 ≤ x := by omega
        have g3 : ¬ 65 ≤ x := by omega
        have g5 : ¬ 48 ≤ x := by omega
        go_wp2
        go_meet
        case rel => exact ⟨rfl, rfl⟩
    case rest =>
      obtain ⟨rfl, rfl⟩ := hcut
      clear hr
      go_wp2_with fail
      go_loopg [3] 18 (fun g i wr => ∃ k : Nat, g = 18 - k ∧ k ≤ 18 ∧ i = .int .i64 (k : Int) ∧ Hid (∀ j, j < k → marks[j]? ≠ some c) ∧ wr = wc)
      case atStart => exact ⟨0, rfl, by omega, rfl, fun j hj => by omega, rfl⟩
      case round =>
        obtain ⟨k, hg, hk, rfl, HK, rfl⟩ := hrel
        by_cases hk18 : (k : Int) < 18
        · have hk' : k < 18 := by omega
          have hsz : k < (⟨#[33, 36, 37, 38, 42, 47, 58, 60, 61, 62, 63, 94, 95, 126, 43, 45, 46, 64]⟩ : ByteArray).size := hk'
          by_cases hc : marks[k]'hk' = c
          · have hb : ((((⟨#[33, 36, 37, 38, 42, 47, 58, 60, 61, 62, 63, 94, 95, 126, 43, 45, 46, 64]⟩ : ByteArray)[k]'hsz).toNat : Int) == x) = true := by rw [marks_get k hk' hsz, hc, HX.out]; exact beq_self_eq_true _
            have HY : Hid (symB c = true) := by
              unfold Hid
              rw [HS.out, List.contains_iff_mem, ← hc]
              exact List.getElem_mem _
            clear hc
            go_wp2
            go_ret
            exact ⟨by rw [HY.out]; rfl, rfl⟩
          · have hb : ((((⟨#[33, 36, 37, 38, 42, 47, 58, 60, 61, 62, 63, 94, 95, 126, 43, 45, 46, 64]⟩ : ByteArray)[k]'hsz).toNat : Int) == x) = false := by
              rw [marks_get k hk' hsz, beq_eq_false_iff_ne, HX.out]
              intro e
              exact hc (UInt8.toNat_inj.1 (by omega))
            have HK2 : Hid (∀ j, j < k + 1 → marks[j]? ≠ some c) := by
              intro j hj
              by_cases e : j = k
              · subst e; rw [List.getElem?_eq_getElem hk']; intro h; exact hc (by injection h)
              · exact HK.out j (by omega)
            clear hc
            go_wp2
            go_roundg (18 - (k + 1))
            case measure => omega
            case rel => exact ⟨k + 1, rfl, by omega, by go_num, HK2, rfl⟩
        · have HN : Hid (symB c = false) := by
            unfold Hid
            rw [HS.out, Bool.eq_false_iff]
            intro hc
            rw [List.contains_iff_mem] at hc
            obtain ⟨i, hi⟩ := List.getElem?_of_mem hc
            have h18 : i < 18 := by have := (List.getElem?_eq_some_iff.1 hi).1; simpa [marks] using this
            exact HK.out i (by omega) hi
          go_wp2
          go_ret
          exact ⟨by rw [HN.out]; rfl, rfl⟩

/-- A symbol, if it is no number. -/
def symT (l : List UInt8) : Bool := (decide (1 ≤ l.length) && decide (l.length ≤ 30)) && (!(l == [46]) && l.all symB)
/-- Is it a number as ReadNum reads it? -/
def numF (l : List UInt8) : Bool := rdOkN l && (decide (rval (rdRad l) (rdTop l) / Nat.gcd (rval (rdRad l) (rdTop l)) (rval (rdRad l) (rdBot l)) < 10 ^ 600) && decide (rval (rdRad l) (rdBot l) / Nat.gcd (rval (rdRad l) (rdTop l)) (rval (rdRad l) (rdBot l)) < 10 ^ 600))
theorem ReadAns.flag {s : ByteArray} {e : Ending} (h : ReadAns s e) : ∃ t : ByteArray, e = .returned (.tuple #[.string t, .bool (numF s.data.toList)]) := by
  rcases h with ⟨g1, t, rfl, _, _⟩ | ⟨g1, h⟩
  · exact ⟨t, by unfold numF; rw [g1, Bool.true_and]⟩
  · exact ⟨⟨#[]⟩, by unfold numF; rw [g1, Bool.false_and]; exact h⟩
def symOk (l : List UInt8) : Bool := symT l && !numF l

theorem sym_bad {s : ByteArray} (k : Nat) (h : k < s.size) (hb : symB s[k] = false) : s.data.toList.all symB = false := by
  rw [List.all_eq_false]
  exact ⟨s.data.toList[k]'(by simpa using h), List.getElem_mem _, by show ¬ symB s[k] = true; rw [hb]; decide⟩
theorem sym_all {s : ByteArray} (h : ∀ (k : Nat) (hk : k < s.size), symB (s[k]'hk) = true) : s.data.toList.all symB = true := by
  rw [List.all_eq_true]
  intro c hc
  obtain ⟨i, hi, rfl⟩ := List.getElem_of_mem hc
  exact h i (by simpa using hi)

set_option maxHeartbeats 1000000 in
set_option maxRecDepth 100000 in
theorem symbolOrNum_any (s : ByteArray) (w : World) (hs : s.size ≤ maxLen) :
    Calls Tryd.prog 7 #[.string s] w fun e w' => e = .returned (.bool (symT s.data.toList)) ∧ w' = w := by
  unfold maxLen at hs
  have hlen : s.data.toList.length = s.size := by simp
  by_cases h1 : (s.size : Int) < 1
  · have HN : Hid (symT s.data.toList = false) := by unfold Hid symT; rw [hlen, decide_eq_false (show ¬ 1 ≤ s.size by omega)]; rfl
    clear hlen
    go_enter Tryd.func7, Tryd.ntmps7
    go_wp2
    go_ret
    exact ⟨by rw [HN.out]; rfl, rfl⟩
  · by_cases h2 : (30 : Int) < (s.size : Int)
    · have HN : Hid (symT s.data.toList = false) := by unfold Hid symT; rw [hlen, decide_eq_false (show ¬ s.size ≤ 30 by omega), Bool.and_false]; rfl
      clear hlen
      go_enter Tryd.func7, Tryd.ntmps7
      go_wp2
      go_ret
      exact ⟨by rw [HN.out]; rfl, rfl⟩
    · by_cases h3 : s.data.toList = [46]
      · have hd := str_eq h3
        have HN : Hid (symT s.data.toList = false) := by unfold Hid; rw [h3]; rfl
        clear hlen h3
        go_enter Tryd.func7, Tryd.ntmps7
        go_wp2
        go_ret
        exact ⟨by rw [HN.out]; rfl, rfl⟩
      · have hd := str_ne h3
        have HA : Hid (symT s.data.toList = s.data.toList.all symB) := by
          unfold Hid symT
          rw [hlen, decide_eq_true (show 1 ≤ s.size by omega), decide_eq_true (show s.size ≤ 30 by omega), beq_eq_false_iff_ne.2 h3]; simp
        clear hlen h3
        go_enter Tryd.func7, Tryd.ntmps7
        go_wp2_with fail
        go_loopg [18] s.size (fun g i wr => ∃ k : Nat, g = s.size - k ∧ k ≤ s.size ∧ i = .int .i64 (k : Int) ∧ Hid (∀ (j : Nat) (hj : j < s.size), j < k → symB (s[j]'hj) = true) ∧ wr = w)
        case atStart => exact ⟨0, rfl, by omega, rfl, fun j _ hj => by omega, rfl⟩
        case round =>
          obtain ⟨k, hg, hk, rfl, HK, rfl⟩ := hrel
          by_cases hk1 : (k : Int) < (s.size : Int)
          · have hk' : k < s.size := by omega
            go_wp2_with fail
            refine (inSymbol_any (s[k]'hk') _ _ rfl).mono ?_
            rintro e w' ⟨rfl, rfl⟩
            cases hb : symB (s[k]'hk') with
            | true =>
              have HK2 : Hid (∀ (j : Nat) (hj : j < s.size), j < k + 1 → symB (s[j]'hj) = true) := by
                intro j hj hj2
                by_cases e : j = k
                · subst e; exact hb
                · exact HK.out j hj (by omega)
              clear hb
              go_wp2
              go_roundg (s.size - (k + 1))
              case measure => omega
              case rel => exact ⟨k + 1, rfl, by omega, by go_num, HK2, rfl⟩
            | false =>
              have HN : Hid (symT s.data.toList = false) := by unfold Hid; rw [HA.out]; exact sym_bad k hk' hb
              clear hb
              go_wp2
              go_ret
              exact ⟨by rw [HN.out]; rfl, rfl⟩
          · have HN : Hid (symT s.data.toList = true) := by unfold Hid; rw [HA.out]; exact sym_all (fun j hj => HK.out j hj (by omega))
            go_wp2
            go_ret
            exact ⟨by rw [HN.out]; rfl, rfl⟩

set_option maxHeartbeats 1000000 in
set_option maxRecDepth 100000 in
theorem implGoodSymbol_any (s : ByteArray) (w : World) (hs : s.size ≤ maxLen) (hT : Tab w.heap.size w) :
    Calls Tryd.prog 5 #[.string s] w fun e w' => e = .returned (.bool (symOk s.data.toList)) ∧ Below w.heap.size w w' := by
  have HT : Hid (Tab w.heap.size w) := hT
  clear hT
  go_enter Tryd.func5, Tryd.ntmps5
  go_wp2_with fail
  refine (symbolOrNum_any s _ hs).mono ?_
  rintro e w' ⟨rfl, rfl⟩
  cases hb : symT s.data.toList with
  | false =>
    have HN : Hid (symOk s.data.toList = false) := by unfold Hid symOk; rw [hb]; rfl
    clear hb
    go_wp2
    go_ret
    exact ⟨by rw [HN.out]; rfl, Below.refl _ _⟩
  | true =>
    have HN : Hid (symOk s.data.toList = !numF s.data.toList) := by unfold Hid symOk; rw [hb]; rfl
    clear hb
    go_wp2_with fail
    refine (implReadNum_any s _ hs HT.out).mono ?_
    rintro e w2 ⟨hA, hW⟩
    obtain ⟨t, rfl⟩ := hA.flag
    obtain ⟨o, ho⟩ : ∃ o, o = numF s.data.toList := ⟨_, rfl⟩
    rw [← ho] at HN ⊢
    clear hA ho
    go_wp2
    go_ret
    exact ⟨by rw [HN.out]; rfl, hW⟩

set_option maxHeartbeats 1000000 in
set_option maxRecDepth 100000 in
theorem l3Symbol_any (s : ByteArray) (w : World) (hs : s.size ≤ maxLen) :
    Calls Tryd.prog 6 #[.string s] w fun e w' => e = .returned (.bool (symOk s.data.toList)) ∧ Below w.heap.size w w' := by
  have hs' := hs
  unfold maxLen at hs
  go_enter Tryd.func6, Tryd.ntmps6
  go_wp2_with fail
  go_loopg [3] s.size (fun g i wr => ∃ k : Nat, g = s.size - k ∧ k ≤ s.size ∧ i = .int .i64 (k : Int) ∧ Hid (∀ (j : Nat) (hj : j < s.size), j < k → symB (s[j]'hj) = true) ∧ wr = w)
  case atStart => exact ⟨0, rfl, by omega, rfl, fun j _ hj => by omega, rfl⟩
  case round =>
    obtain ⟨k, hg, hk, rfl, HK, rfl⟩ := hrel
    by_cases hk1 : (k : Int) < (s.size : Int)
    · have hk' : k < s.size := by omega
      go_wp2_with fail
      refine (l3SymbolByte_any (s[k]'hk') _ _ rfl).mono ?_
      rintro e w' ⟨rfl, rfl⟩
      cases hb : symB (s[k]'hk') with
      | true =>
        have HK2 : Hid (∀ (j : Nat) (hj : j < s.size), j < k + 1 → symB (s[j]'hj) = true) := by
          intro j hj hj2
          by_cases e : j = k
          · subst e; exact hb
          · exact HK.out j hj (by omega)
        clear hb
        go_wp2
        go_roundg (s.size - (k + 1))
        case measure => omega
        case rel => exact ⟨k + 1, rfl, by omega, by go_num, HK2, rfl⟩
      | false =>
        have HN : Hid (symOk s.data.toList = false) := by
          unfold Hid symOk symT; rw [sym_bad k hk' hb]; simp
        clear hb
        go_wp2
        go_ret
        exact ⟨by rw [HN.out]; rfl, Below.refl _ _⟩
    · have HA := hideT' (sym_all (fun j hj => HK.out j hj (by omega)))
      go_wp2_with fail
      refine (l2Read_any s _ hs').mono ?_
      rintro e w2 ⟨hA, hW⟩
      obtain ⟨t, rfl⟩ := hA.flag
      obtain ⟨o, ho⟩ : ∃ o, o = numF s.data.toList := ⟨_, rfl⟩
      rw [← ho]
      have HN : Hid (symOk s.data.toList = ((decide (1 ≤ (s.size : Int)) && decide ((s.size : Int) ≤ 30)) && !(s.data.toList == [46]) && !o)) := by
        unfold Hid symOk symT
        have hlen : s.data.toList.length = s.size := by simp
        rw [HA.out, ← ho, hlen, Bool.and_true]
        have e1 : decide (1 ≤ s.size) = decide (1 ≤ (s.size : Int)) := decide_eq_decide.2 (by omega)
        have e2 : decide (s.size ≤ 30) = decide ((s.size : Int) ≤ 30) := decide_eq_decide.2 (by omega)
        rw [e1, e2]
      clear hA ho
      go_wp2_with fail
      refine (l1In_any (s.size : Int) 1 30 _).mono ?_
      rintro e w3 ⟨rfl, rfl⟩
      cases h1 : (decide (1 ≤ (s.size : Int)) && decide ((s.size : Int) ≤ 30)) with
      | false =>
        rw [h1] at HN
        clear h1
        go_wp2
        go_ret
        exact ⟨by rw [HN.out]; rfl, hW⟩
      | true =>
        rw [h1] at HN
        clear h1
        cases h3 : (s.data.toList == [46]) with
        | true =>
          rw [h3] at HN
          have hd : (s.toList == [46]) = true := by rw [ByteArray.toList_eq]; exact h3
          clear h3
          go_wp2
          go_ret
          exact ⟨by rw [HN.out]; rfl, hW⟩
        | false =>
          rw [h3] at HN
          have hd : (s.toList == [46]) = false := by rw [ByteArray.toList_eq]; exact h3
          clear h3
          go_wp2
          go_ret
          exact ⟨by rw [HN.out]; rfl, hW⟩

theorem specGoodSymbol_any (s : ByteArray) (w : World) (hs : s.size ≤ maxLen) :
    Calls Tryd.prog 4 #[.string s] w fun e w' => e = .returned (.bool (symOk s.data.toList)) ∧ Below w.heap.size w w' := by
  go_enter Tryd.func4, Tryd.ntmps4
  go_wp2_with fail
  refine (l3Symbol_any s _ hs).mono ?_
  rintro e w2 ⟨rfl, hW⟩
  obtain ⟨o, ho⟩ : ∃ o, o = symOk s.data.toList := ⟨_, rfl⟩
  rw [← ho]
  have HO := hideT' ho
  clear ho
  go_wp2
  go_ret
  exact ⟨by rw [← HO.out]; rfl, hW⟩
end Go.Proofs.YtjgpjafndaikcaaDoor
