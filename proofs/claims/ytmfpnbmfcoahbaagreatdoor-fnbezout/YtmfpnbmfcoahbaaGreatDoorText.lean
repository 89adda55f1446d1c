/-
  What text and tellNat of impl's nats answer: the number's text.
-/
import Derived.Test.YtmfpnbmfcoahbaaGreatDoorPkRead
import Derived.Test.YtmfpnbmfcoahbaaGreatDoorDec
import Derived.Test.YtmfpnbmfcoahbaaGreatDoorPkLimbs
import Derived.Test.YtmfpnbmfcoahbaaGreatDoorShelf
import Derived.Lib.AppendIntMem
import Derived.Sort.Grow
import Derived.Lib.AppendStr
import Derived.Laws.IdiomStrings
namespace Go.Proofs.YtmfpnbmfcoahbaaGreatDoor
open Go.RowKit
set_option linter.unusedVariables false

/-- The library's table of powers lies below B. -/
def Tab (B : Nat) (w : World) : Prop := Lib.TabBelow Tryz.prog B w ("internal/strconv.uint64pow10") .u64 Lib.pow10Tab
theorem Tab.on {B : Nat} {w w' : World} (h : Tab B w) (hb : Below B w w') : Tab B w' := Lib.TabBelow.on h hb
theorem Tab.up {B B' : Nat} {w : World} (h : Tab B w) (hB : B ≤ B') : Tab B' w := fun w' hw => h w' (hw.mono hB)

theorem info_u8 : (Tryz.prog.info? 5).map (fun i => (i.zero, i.size, i.bytes)) = some (some (.int .u8 0), 1, 1) := by kernel_rfl

theorem grown_grow (w : World) (k : Nat) (os : Array Obj) : w.grownBy (Sort.grow (w.drewN k) os) none :=
  ⟨rfl, rfl, rfl, by simp [Sort.grow], fun i hi _ => by
    show (w.heap ++ os)[i]? = _
    rw [Array.getElem?_append_left hi]⟩

theorem ext17 (c : UInt8) (m : List UInt8) (h : m.length = 6) : ((⟨(c :: m).toArray⟩ : ByteArray).extract 1 7).data.toList = m := by
  rw [ByteArray.data_extract]
  simp
  exact List.take_of_length_le (by omega)
theorem ext17_size (c : UInt8) (m : List UInt8) (h : m.length = 6) : ((⟨(c :: m).toArray⟩ : ByteArray).extract 1 7).size = 6 := by
  have := congrArg List.length (ext17 c m h)
  rw [Array.length_toList, h] at this
  exact this
/-- The numeral so far: the parts from g on. -/
structure Said (p : List Int) (g : Nat) (l : List UInt8) : Prop where
  canon : canonB l = true
  val : (dval l : Int) = vb 1000000 (p.drop g)
  pos : dval l ≠ 0
  len : l.length ≤ 6 * (204 - g) + 6

theorem drop_val (p : List Int) (g : Nat) (h : g < p.length) : vb 1000000 (p.drop g) = p.getD g 0 + 1000000 * vb 1000000 (p.drop (g + 1)) := by
  rw [List.drop_eq_getElem_cons h]; simp [vb, List.getD, h]

theorem Said.start {n k : Nat} {p : List Int} (h : Rep n k p) (hk : 0 < k) : Said p (k - 1) (Lib.itoa (p.getD (k - 1) 0)) := by
  have hlo := h.lo (k - 1)
  have hhi := h.hi (k - 1)
  have htop := h.top hk
  obtain ⟨x, hx⟩ := Int.eq_ofNat_of_zero_le hlo
  have hd := dec_canon x
  have hi : Lib.itoa (p.getD (k - 1) 0) = Lib.decDigits x := by
    rw [hx]; unfold Lib.itoa; rw [if_neg (by omega)]; simp
  rw [hi]
  refine ⟨hd.1, ?_, by rw [hd.2]; omega, ?_⟩
  · rw [hd.2, drop_val p (k - 1) (by rw [h.len]; have := h.le; omega), hx]
    have : k - 1 + 1 = k := by omega
    rw [this, vb_zero _ _ (fun i => by rw [getD_drop]; exact h.out _ (by omega))]; simp
  · have : (Lib.decDigits x).length ≤ 6 := (canon_len_le hd.1 6 (by omega)).2 (by rw [hd.2]; omega)
    omega

theorem Said.step {p : List Int} {g : Nat} {l m : List UInt8} (h : Said p (g + 1) l) (hg : g < p.length) (hl : p.length = 204) (hm : m.all isDig = true) (h6 : m.length = 6) (hv : (dval m : Int) = p.getD g 0) : Said p g (l ++ m) := by
  refine ⟨canon_append h.canon h.pos hm, ?_, ?_, ?_⟩
  · rw [dval_append, h6, drop_val p g hg, ← h.val, ← hv]; simp; omega
  · have := h.pos
    rw [dval_append, h6]
    have : 1 ≤ dval l * 10 ^ 6 := Nat.mul_pos (by omega) (by omega)
    omega
  · have := h.len; simp [h6]; omega

set_option maxHeartbeats 1000000 in
set_option maxRecDepth 100000 in
theorem text_zero {n : Nat} {p : List Int} (w : World) (hP : Rep n 0 p) :
    Calls Tryz.prog 13 #[.agg (natC 0 p)] w fun e w' => ∃ s : ByteArray, e = .returned (.string s) ∧ canonB s.data.toList = true ∧ dval s.data.toList = n ∧ Below w.heap.size w w' := by
  have a0 := (NatAt.new w 0 p).c0
  have hn : n = 0 := by have := hP.lt; simp at this; omega
  go_enter Tryz.func13, Tryz.ntmps13
  go_wp2
  go_ret
  exact ⟨⟨#[48]⟩, rfl, by decide, by rw [hn]; decide, (Below.refl _ _).alloc (Nat.le_refl _) _⟩

set_option maxHeartbeats 1000000 in
set_option maxRecDepth 100000 in
theorem text_pos {n k : Nat} {p : List Int} (w : World) (hP : Rep n k p) (hk : 0 < k) (hT : Tab w.heap.size w) :
    Calls Tryz.prog 13 #[.agg (natC k p)] w fun e w' => ∃ s : ByteArray, e = .returned (.string s) ∧ canonB s.data.toList = true ∧ dval s.data.toList = n ∧ Below w.heap.size w w' := by
  have A := NatAt.new w k p
  have a0 := A.c0
  have hp := hP.len
  have hle := hP.le
  obtain ⟨j, hj⟩ : ∃ j, k = j + 1 := ⟨k - 1, by omega⟩
  have a1 := A.cs j (by omega)
  have hB : Below w.heap.size w (w.alloc (.cells (natC k p) 32)) := (Below.refl _ _).alloc (Nat.le_refl _) _
  have hT1 : Tab (w.heap.size + 1) (w.alloc (.cells (natC k p) 32)) := (hT.on hB).up (by omega)
  have hS := Said.start hP hk
  rw [show k - 1 = j by omega] at hS
  have HS : Hid (Said p j (Lib.itoa (p.getD j 0))) := hS
  have HP : Hid (Rep n k p) := hP
  have hlo := hP.lo j
  have hhi := hP.hi j
  have HT : Hid (Tab (w.heap.size + 1) (w.alloc (.cells (natC k p) 32))) := hT1
  have HA : Hid (NatAt (w.alloc (.cells (natC k p) 32)) w.heap.size k p) := A
  obtain ⟨x, hx⟩ : ∃ x, x = p.getD j 0 := ⟨_, rfl⟩
  rw [← hx] at a1 hlo hhi
  have HX : Hid (x = p.getD j 0) := hx
  have hb0 : ((k : Int) == 0) = false := by rw [beq_eq_false_iff_ne]; omega
  have hj2 : (j : Int) < 204 := by omega
  have hkj : (k : Int) - 1 = (j : Int) := by omega
  have hkj2 : (k : Int) - 2 = (j : Int) - 1 := by omega
  have HJ : Hid (k = j + 1) := hj
  obtain ⟨i0, hi, hz0, hz1, hz2⟩ := info_parts info_u8
  clear hS hP hT hT1 A hx hj
  go_enter Tryz.func13, Tryz.ntmps13
  go_wp2_with fail
  refine (Tryz.strconv_AppendInt_10 (w.heap.size + 1) 0 x (by omega) (by omega) _ [] _ (World.ownsRow_nil _ _ _ _) (by simp) (by omega) HT.out).mono ?_
  rintro e w1 ⟨v1, rfl, hown, hW1, _⟩
  have A1 := HA.out.below hW1 (by omega)
  have c0 := A1.c0
  have hBW : Below w.heap.size w w1 := hB.trans (hW1.mono (by omega))
  have HT1 : Hid (Tab (w.heap.size + 1) w1) := HT.out.on hW1
  simp only [Nat.zero_add, List.nil_append] at hown
  have HS1 : Hid (Said p j (Lib.itoa x)) := by unfold Hid; rw [HX.out]; exact HS.out
  clear a0 a1 hW1 hB HT HA HS HX
  go_wp2_with fail
  go_loopg [3, 4] j (fun g v y wr => ∃ l : List UInt8, g ≤ j ∧ y = .int .i64 ((g : Int) - 1) ∧ wr.ownsRow (w.heap.size + 1) 5 1 v l.length (Lib.byteCells l) ∧ NatAt wr w.heap.size k p ∧ Hid (Said p g l) ∧ Below w.heap.size w wr ∧ Hid (Tab (w.heap.size + 1) wr))
  case atStart => exact ⟨_, Nat.le_refl _, rfl, hown, A1, HS1, hBW, HT1⟩
  case round =>
    obtain ⟨l, hg, rfl, hown2, hA, hS, hW, hT⟩ := hrel
    clear hown A1 c0 hBW HT1 HS1
    have hWs := hW.size
    have hAl := hA.lt
    cases gk with
    | zero =>
      have hv := hS.out.val
      have hcn := hS.out.canon
      have hpos := canon_pos hcn
      rw [List.drop_zero, HP.out.val] at hv
      have HV : Hid (canonB l = true ∧ dval l = n) := ⟨hcn, by omega⟩
      clear hv hcn
      rcases hown2.2 with ⟨_, h0⟩ | ⟨gb, cap, cur, rfl, hgb, hcur, hnc, hcm, hcs, htake⟩
      · omega
      · have hcv := run_convert_bytes_back (P := Tryz.prog) wr 22 9 5 ⟨gb, 0, none⟩ cap l Tryz.underlying22 Tryz.underlying5 Tryz.underlying9 (fun q hq => by
          have := hown2.cells (g := gb) rfl q (.int .u8 (l[q].toNat : Int)) (by simp [Lib.byteCells, List.getElem?_eq_getElem hq])
          exact this)
        clear hown2 hcur htake
        go_wp2
        go_ret
        exact ⟨⟨l.toArray⟩, rfl, by simpa using HV.out.1, by simpa using HV.out.2, hW⟩
    | succ g =>
      have c1 := hA.cs g (by omega)
      have hg2 : (g : Int) < 204 := by omega
      obtain ⟨y, hy⟩ : ∃ y, y = p.getD g 0 := ⟨_, rfl⟩
      have hy0 : 0 ≤ y ∧ y < 1000000 := by rw [hy]; exact ⟨HP.out.lo g, HP.out.hi g⟩
      obtain ⟨hy0, hy1⟩ := hy0
      rw [← hy] at c1
      have HY : Hid (y = p.getD g 0) := hy
      obtain ⟨yn, hyn⟩ := Int.eq_ofNat_of_zero_le hy0
      obtain ⟨c, m, hdm, hm6, hmd, hmv⟩ := dec_part yn (by omega)
      have hit : Lib.itoa (1000000 + y) = c :: m := by
        rw [hyn]; unfold Lib.itoa; rw [if_neg (by omega)]; rw [← hdm]; congr 1
      have HI : Hid (Lib.itoa (1000000 + y) = c :: m) := hit
      have HM : Hid (m.length = 6 ∧ m.all isDig = true ∧ (dval m : Int) = y) := ⟨hm6, hmd, by omega⟩
      clear hy hyn hdm hm6 hmd hmv hit
      go_wp2_with fail
      refine (Tryz.strconv_Itoa (1000000 + y) (by omega) (by omega) wr hT.out.here).mono ?_
      rintro e w2 ⟨rfl, kk, os, hw2⟩
      have hgr : wr.grownBy w2 none := by rw [hw2]; exact grown_grow _ _ _
      rw [HI.out]
      have hown3 := hown2.kept hgr (by cases hv : (Value.ownBlock u3) <;> simp)
      have hll := hS.out.len
      have hm6 := HM.out.1
      have hgs := hgr.size
      clear hw2
      go_wp2_with (first | (at_builtin; refine Lib.wpList_append_own_string _ rfl _ _ 22 9 rfl (w.heap.size + 1) 5 i0 Tryz.underlying22 Tryz.underlying9 hi hz0 hz1 hz2 _ _ _ rfl hown3 _ rfl (by rw [ext17_size c m hm6]; unfold maxLen; omega) (by rw [ext17_size c m hm6]; omega) (by omega) ?_; intro v' w3 hown4 hgr4 _))
      go_roundg g
      case measure => omega
      case rel =>
        obtain ⟨_, hmd, hmv⟩ := HM.out
        have hA2 := hA.grown hgr (by simp)
        have hge : ∀ k, Value.ownBlock u3 = some k → w.heap.size + 1 ≤ k := fun k hk => own_ge hown2 hk
        have hA3 := hA2.grown hgr4 (fun e => by have := hge _ e.symm; omega)
        have hW2 : Below w.heap.size w w2 := hW.grown hgr (by omega) (by intro k hk; cases hk)
        have hW3 : Below w.heap.size w w3 := hW2.grown hgr4 (by omega) (fun k hk => by have := hge k hk; omega)
        have hT2 : Below (w.heap.size + 1) wr w2 := (Below.refl _ _).grown hgr (by omega) (by intro k hk; cases hk)
        have hT3 : Below (w.heap.size + 1) wr w3 := hT2.grown hgr4 (by omega) hge
        refine ⟨l ++ m, by omega, by go_num, ?_, hA3, hS.out.step (by omega) hp hmd hm6 (by rw [hmv]; exact HY.out), hW3, hT.out.on hT3⟩
        rw [ext17_size c m hm6] at hown4
        unfold Lib.strCells at hown4
        rw [ext17 c m hm6] at hown4
        rw [List.length_append, hm6]
        unfold Lib.byteCells at *
        rw [List.map_append]
        exact hown4

theorem text_any {n k : Nat} {p : List Int} (w : World) (hP : Rep n k p) (hT : Tab w.heap.size w) :
    Calls Tryz.prog 13 #[.agg (natC k p)] w fun e w' => ∃ s : ByteArray, e = .returned (.string s) ∧ canonB s.data.toList = true ∧ dval s.data.toList = n ∧ Below w.heap.size w w' := by
  by_cases hk : 0 < k
  · exact text_pos w hP hk hT
  · obtain rfl : k = 0 := by omega
    exact text_zero w hP

/-- What tellNat answers: the text, where it has at most 600 digits. -/
theorem tellNat_any {n k : Nat} {p : List Int} (w : World) (hP : Rep n k p) (hT : Tab w.heap.size w) :
    Calls Tryz.prog 17 #[.agg (natC k p)] w fun e w' => ∃ s : ByteArray, e = .returned (.tuple #[.string s, .bool (decide (n < 10 ^ 600))]) ∧ (n < 10 ^ 600 → canonB s.data.toList = true ∧ dval s.data.toList = n) ∧ (¬ n < 10 ^ 600 → s = ⟨#[]⟩) ∧ Below w.heap.size w w' := by
  have A := NatAt.new w k p
  have hp := hP.len
  have hB : Below w.heap.size w (w.alloc (.cells (natC k p) 32)) := (Below.refl _ _).alloc (Nat.le_refl _) _
  have hf := hP.fits
  obtain ⟨fb, hfb⟩ : ∃ fb : Bool, fb = decide (n < 10 ^ 600) := ⟨_, rfl⟩
  have hd : Hid (decide (k ≤ 100) = fb) := by unfold Hid; rw [hfb]; simp only [hf]
  have HP : Hid (Rep n k p) := hP
  have HF : Hid (fb = decide (n < 10 ^ 600)) := hfb
  have HT : Hid (Tab w.heap.size w) := hT
  rw [← hfb]
  clear hP hfb hf hT
  go_enter Tryz.func17, Tryz.ntmps17
  go_wp2_with (refine load_nat rfl _ rfl w.heap.size rfl k p A hp ?_)
  refine (fits_any k p _).mono ?_
  rintro e w1 ⟨rfl, hW1⟩
  have A1 := A.below hW1 (by simp)
  have hB1 : Below w.heap.size w w1 := hB.trans (hW1.mono (by simp))
  have hs1 := hW1.size
  simp only [World.size_alloc] at hs1
  have hT1 : Hid (Tab w1.heap.size w1) := (HT.out.on hB1).up (by omega)
  rw [hd.out]
  clear A hB hW1
  cases fb with
  | true =>
    go_wp2_with (refine load_nat rfl _ rfl w.heap.size rfl k p A1 hp ?_)
    refine (text_any w1 HP.out hT1.out).mono ?_
    rintro e w2 ⟨s, rfl, hc, hv, hW2⟩
    have HC : Hid (canonB s.data.toList = true ∧ dval s.data.toList = n) := ⟨hc, hv⟩
    clear hc hv
    go_wp2
    go_ret2
    exact ⟨s, rfl, fun _ => HC.out, fun h => absurd (of_decide_eq_true HF.out.symm) h, hB1.trans (hW2.mono (by omega))⟩
  | false =>
    go_wp2
    go_ret2
    exact ⟨⟨#[]⟩, rfl, fun h => absurd h (of_decide_eq_false HF.out.symm), fun _ => rfl, hB1⟩

end Go.Proofs.YtmfpnbmfcoahbaaGreatDoor
