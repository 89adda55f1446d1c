/-
  The texts SpecMul, SpecPow, one behind the other.
-/
import Derived.Test.YtmfpnbmfcoahbaaDoorL1In
import Derived.Test.YtmfpnbmfcoahbaaDoorPkSpecSub
import Derived.Test.YtmfpnbmfcoahbaaDoorPkMinus
import Derived.Deep.OwnRows
import Derived.Test.YtmfpnbmfcoahbaaDoorPkGood

/-
  What spec.l1Mul and spec.MulNat answer.
-/
namespace Go.Proofs.YtmfpnbmfcoahbaaDoor
open Go.RowKit
set_option linter.unusedVariables false

theorem info_int : (Tryd.prog.info? 3).map (fun i => (i.zero, i.size, i.bytes)) = some (some (.int .i64 0), 1, 8) := by kernel_rfl

theorem made_zeros (z : Value) (n : Nat) : (madeCells #[z] n).toList = List.replicate n z := by
  apply List.ext_getElem
  · simp [madeCells]
  · intro i h1 h2
    simp [madeCells, Nat.mod_one]

theorem made_own (w : World) (B n : Nat) (hB : B ≤ w.heap.size) (hn : n ≤ maxLen) : (w.alloc (.cells (madeCells #[.int .i64 0] n) 3)).ownsRow B 3 1 (.slice (some ⟨w.heap.size, 0, none⟩) n n) n (ints (List.replicate n 0)) := by
  refine ⟨by simp [ints], .inr ⟨w.heap.size, n, _, rfl, hB, (Array.getElem?_push_size (xs := w.heap) (x := .cells (madeCells #[.int .i64 0] n) 3)), Nat.le_refl _, hn, by simp [size_madeCells], ?_⟩⟩
  rw [made_zeros]
  simp [ints]

theorem own_lt {w : World} {B g n c : Nat} {l : List Int} (h : w.ownsRow B 3 1 (.slice (some ⟨g, 0, none⟩) n c) n (ints l)) (hn : 0 < n) : B ≤ w.heap.size := by
  obtain ⟨g', c', e, h1, h2, _⟩ := own_form h hn
  omega

theorem zeros_get (n : Nat) : ∀ x, (List.replicate n (0 : Int)).getD x 0 = 0 := by
  intro x
  simp only [List.getD, List.getElem?_replicate]
  split <;> rfl

set_option maxHeartbeats 1000000 in
set_option maxRecDepth 100000 in
theorem l1Mul_big (a b : ByteArray) (w : World) (hsa : a.size ≤ 1200) (hsb : b.size ≤ 1200) (ha : canonB a.data.toList = true) (hb : canonB b.data.toList = true) :
    Calls Tryd.prog 41 #[.string a, .string b] w fun e w' => ∃ s : ByteArray, e = .returned (.string s) ∧ canonB s.data.toList = true ∧ dval s.data.toList = dval a.data.toList * dval b.data.toList ∧ Below w.heap.size w w' := by
  have HA : Hid (a.data.toList.all isDig = true) := canon_all ha
  have HB : Hid (b.data.toList.all isDig = true) := canon_all hb
  have hap : 0 < a.size := canon_sz ha
  have hbp : 0 < b.size := canon_sz hb
  clear ha hb
  go_enter Tryd.func41, Tryd.ntmps41
  go_wp2_with fail
  refine (l1Limbs_any a _ (by omega) HA.out).mono ?_
  rintro e w1 ⟨v1, l1, rfl, hown1, h11, h12, hbd1, hval1, hW1⟩
  have HV1 : Hid ((∀ x ∈ l1, 0 ≤ x ∧ x < 10000) ∧ vb 10000 l1 = (dval a.data.toList : Int)) := ⟨hbd1, hval1⟩
  clear hbd1 hval1
  go_wp2_with fail
  refine (l1Limbs_any b _ (by omega) HB.out).mono ?_
  rintro e w2 ⟨v2, l2, rfl, hown2, h21, h22, hbd2, hval2, hW2⟩
  have HV2 : Hid ((∀ x ∈ l2, 0 ≤ x ∧ x < 10000) ∧ vb 10000 l2 = (dval b.data.toList : Int)) := ⟨hbd2, hval2⟩
  obtain ⟨g1, c1, rfl, hg1, hg1s, hc1, hm1⟩ := own_form hown1 (by omega)
  obtain ⟨g2, c2, rfl, hg2, hg2s, hc2, hm2⟩ := own_form hown2 (by omega)
  have hown1' := hown1.kept (below_grown hW2) (by simp [Value.ownBlock])
  have hB2 : Below w.heap.size w w2 := hW1.trans (hW2.mono hW1.size)
  have hs1 := hW1.size
  have hs2 := hW2.size
  obtain ⟨n1, hn1⟩ : ∃ n1, n1 = l1.length := ⟨_, rfl⟩
  obtain ⟨n2, hn2⟩ : ∃ n2, n2 = l2.length := ⟨_, rfl⟩
  have HN : Hid (n1 = l1.length ∧ n2 = l2.length) := ⟨hn1, hn2⟩
  rw [← hn1] at hown1' h11 h12 hc1
  rw [← hn2] at hown2 h21 h22 hc2
  rw [← hn1, ← hn2]
  have hn1p : 0 < n1 := by omega
  have hn2p : 0 < n2 := by omega
  have hn1b : (n1 : Int) ≤ 300 := by omega
  have hn2b : (n2 : Int) ≤ 300 := by omega
  obtain ⟨N, hN⟩ : ∃ N, N = n1 + n2 := ⟨_, rfl⟩
  have HNN : Hid (N = n1 + n2) := hN
  have hNb : N ≤ 600 := by omega
  have hwN : IntKind.i64.wrap ((n1 : Int) + (n2 : Int)) = (N : Int) := by rw [IntKind.wrap_i64]; omega
  have hmk := run_make_row' (P := Tryd.prog) 102 3 (.int .i64 0) 8 Tryd.underlying102 info_int rfl .i64 .i64 N (by omega) (by omega)
  have hown3 := made_own w2 w2.heap.size N (Nat.le_refl _) (by unfold maxLen; omega)
  have hown1'' := hown1'.alloc (.cells (madeCells #[.int .i64 0] N) 3)
  have hown2'' := hown2.alloc (.cells (madeCells #[.int .i64 0] N) 3)
  have hB3 : Below w.heap.size w (w2.alloc (.cells (madeCells #[.int .i64 0] N) 3)) := hB2.alloc (by omega) _
  unfold maxLen at hm1 hm2
  clear hown1 hown1' hown2 hB2 hW1 hW2 hbd2 hval2 hn1 hn2 h11 h12 h21 h22 hN
  go_wp2
  clear hmk hwN
  go_loopg [7, 24] n1 (fun gh v i wr => ∃ s : Nat, gh = n1 - s ∧ s ≤ n1 ∧ v = .slice (some ⟨w2.heap.size, 0, none⟩) N N ∧ i = .int .i64 (s : Int) ∧ wr.ownsRow w.heap.size 3 1 (.slice (some ⟨g1, 0, none⟩) n1 c1) n1 (ints l1) ∧ wr.ownsRow w1.heap.size 3 1 (.slice (some ⟨g2, 0, none⟩) n2 c2) n2 (ints l2) ∧ wr.ownsRow w2.heap.size 3 1 (.slice (some ⟨w2.heap.size, 0, none⟩) N N) N (ints (rowsTo (List.replicate N 0) l1 l2 n2 s)) ∧ Below w.heap.size w wr)
  case atStart => exact ⟨0, rfl, by omega, rfl, rfl, hown1'', hown2'', hown3, hB3⟩
  case round =>
    obtain ⟨s, rfl, hs, rfl, rfl, hX, hY, hZ, hW⟩ := hrel
    clear hown1'' hown2'' hown3 hB3
    obtain ⟨hn1, hn2⟩ := HN.out
    have hNN := HNN.out
    have hb1 : Hid (∀ x, 0 ≤ l1.getD x 0 ∧ l1.getD x 0 < 10000) := fun x => limb_bd HV1.out.1 x
    have hb2 : Hid (∀ x, 0 ≤ l2.getD x 0 ∧ l2.getD x 0 < 10000) := fun x => limb_bd HV2.out.1 x
    by_cases hsk : (s : Int) < (n1 : Int)
    · have cx := own_cell hX s (by omega)
      have hrb : Hid (∀ x, 0 ≤ (rowsTo (List.replicate N 0) l1 l2 n2 s).getD x 0 ∧ (rowsTo (List.replicate N 0) l1 l2 n2 s).getD x 0 ≤ (s : Int) * (10000 * 10000)) := rowsTo_bd (List.replicate N 0) l1 l2 10000 n2 s (by omega) (zeros_get N) hb1.out hb2.out (by simp; omega)
      have hrl : Hid ((rowsTo (List.replicate N 0) l1 l2 n2 s).length = N) := by unfold Hid; rw [rowsTo_len]; simp
      obtain ⟨x, hx⟩ : ∃ x, x = l1.getD s 0 := ⟨_, rfl⟩
      rw [← hx] at cx
      obtain ⟨hx0, hx1⟩ : 0 ≤ x ∧ x < 10000 := by rw [hx]; exact hb1.out s
      have HX : Hid (x = l1.getD s 0) := hx
      clear hx hn1 hn2 hNN
      go_wp2
      go_loopg [31] n2 (fun gh i wq => ∃ t : Nat, gh = n2 - t ∧ t ≤ n2 ∧ i = .int .i64 (t : Int) ∧ wq.ownsRow w.heap.size 3 1 (.slice (some ⟨g1, 0, none⟩) n1 c1) n1 (ints l1) ∧ wq.ownsRow w1.heap.size 3 1 (.slice (some ⟨g2, 0, none⟩) n2 c2) n2 (ints l2) ∧ wq.ownsRow w2.heap.size 3 1 (.slice (some ⟨w2.heap.size, 0, none⟩) N N) N (ints (subTo (rowsTo (List.replicate N 0) l1 l2 n2 s) l2 (-(l1.getD s 0)) s t)) ∧ Below w.heap.size w wq)
      case atStart => exact ⟨0, rfl, by omega, rfl, hX, hY, hZ, hW⟩
      case round =>
        obtain ⟨t, rfl, ht, rfl, hX2, hY2, hZ2, hW2⟩ := hrel
        clear hX hY hZ hW cx
        by_cases hlt : (t : Int) < (n2 : Int)
        · obtain ⟨hn1, hn2⟩ := HN.out
          have hNN := HNN.out
          obtain ⟨u, hu⟩ : ∃ u, u = s + t := ⟨_, rfl⟩
          have hll : (subTo (rowsTo (List.replicate N 0) l1 l2 n2 s) l2 (-(l1.getD s 0)) s t).length = N := by rw [subTo_len]; exact hrl.out
          have cy := own_cell hY2 t (by omega)
          have cz := own_cell hZ2 u (by omega)
          have hfr := own_fr hZ2 u
          have hun : (u : Int) < (N : Int) := by omega
          obtain ⟨y, hy⟩ : ∃ y, y = l2.getD t 0 := ⟨_, rfl⟩
          obtain ⟨v, hv⟩ : ∃ v, v = (subTo (rowsTo (List.replicate N 0) l1 l2 n2 s) l2 (-(l1.getD s 0)) s t).getD u 0 := ⟨_, rfl⟩
          obtain ⟨hy0, hy1⟩ : 0 ≤ y ∧ y < 10000 := by rw [hy]; exact hb2.out t
          obtain ⟨hv0, hv1⟩ : 0 ≤ v ∧ v ≤ 30100000000 := by
            have := part_bd (List.replicate N 0) l1 l2 10000 n2 s t u (by omega) (zeros_get N) hb1.out hb2.out (by simp; omega) (by simp; omega) hrb.out
            rw [← hv] at this
            refine ⟨this.1, Int.le_trans this.2 ?_⟩
            have : ((s + 1 : Nat) : Int) ≤ 301 := by omega
            omega
          rw [← hy] at cy
          rw [← hv] at cz
          obtain ⟨z, hzz⟩ : ∃ z, x * y = z := ⟨_, rfl⟩
          obtain ⟨hz0, hz1⟩ : 0 ≤ z ∧ z ≤ 10000 * 10000 := by rw [← hzz]; exact mul_bd hx0 hx1 hy0 hy1
          have HY : Hid (y = l2.getD t 0 ∧ v = (subTo (rowsTo (List.replicate N 0) l1 l2 n2 s) l2 (-(l1.getD s 0)) s t).getD u 0 ∧ u = s + t) := ⟨hy, hv, hu⟩
          have hwr : IntKind.i64.wrap ((s : Int) + (t : Int)) = (u : Int) := by rw [IntKind.wrap_i64]; omega
          have hwz : IntKind.i64.wrap z = z := by rw [IntKind.wrap_i64]; omega
          clear hy hv hu hn1 hn2 hNN hll
          go_wp2
          go_roundg (n2 - (t + 1))
          case measure => omega
          case rel =>
            have hx := HX.out
            obtain ⟨hy, hv, hu⟩ := HY.out
            subst hu
            refine ⟨t + 1, rfl, by omega, by go_num, ?_, ?_, ?_, hW2.setCell (by simp; omega) _⟩
            · exact hX2.kept (row := some w2.heap.size) ⟨rfl, rfl, rfl, by simp [World.setCell], fun k _ hk => Below.heap_setCell _ _ _ _ (fun e => hk (by rw [e]))⟩ (.inr (by simp [Value.ownBlock]; omega))
            · exact hY2.kept (row := some w2.heap.size) ⟨rfl, rfl, rfl, by simp [World.setCell], fun k _ hk => Below.heap_setCell _ _ _ _ (fun e => hk (by rw [e]))⟩ (.inr (by simp [Value.ownBlock]; omega))
            · have g2 := own_set hZ2 (s + t) (v + z)
              show World.ownsRow _ _ _ _ _ _ (ints ((subTo (rowsTo (List.replicate N 0) l1 l2 n2 s) l2 (-(l1.getD s 0)) s t).set (s + t) ((subTo (rowsTo (List.replicate N 0) l1 l2 n2 s) l2 (-(l1.getD s 0)) s t).getD (s + t) 0 - -(l1.getD s 0) * l2.getD t 0)))
              rw [← hv, ← hx, ← hy, Int.neg_mul, hzz, Int.sub_neg]
              rw [← hx] at g2
              exact g2
        · have htj : t = n2 := by omega
          subst htj
          have hrm : (s : Int).tmod 1000 = (s : Int) := by rw [Int.tmod_eq_emod_of_nonneg (by omega)]; omega
          have hrm2 : (s : Int) < 999 := by omega
          go_wp2
          go_roundg (n1 - (s + 1))
          case measure => omega
          case rel => exact ⟨s + 1, rfl, by omega, rfl, by go_num, hX2, hY2, hZ2, hW2⟩
    · have hsk' : s = n1 := by omega
      subst hsk'
      have hval : Hid (vb 10000 (rowsTo (List.replicate N 0) l1 l2 n2 s) = ((dval a.data.toList * dval b.data.toList : Nat) : Int)) := by
        unfold Hid
        rw [rowsTo_val _ _ _ _ _ _ (zeros_get N) (by simp; omega) (fun k hk => by simp; omega) (by omega) (by omega), List.take_of_length_le (by omega), List.take_of_length_le (by omega), HV1.out.2, HV2.out.2]; simp
      have hbd : Hid (∀ i, -1000000000000 ≤ (rowsTo (List.replicate N 0) l1 l2 n2 s).getD i 0 ∧ (rowsTo (List.replicate N 0) l1 l2 n2 s).getD i 0 ≤ 1000000000000) := fun i => by
        have := rowsTo_bd (List.replicate N 0) l1 l2 10000 n2 s (by omega) (zeros_get N) hb1.out hb2.out (by simp; omega) i
        omega
      have HLX : Hid ((rowsTo (List.replicate N 0) l1 l2 n2 s).length = N) := by unfold Hid; rw [rowsTo_len]; simp
      have hWs := hW.size
      have hNp : 0 < N := by omega
      clear hn1 hn2 hNN
      go_wp2_with fail
      refine (l1Carry_any w2.heap.size _ (rowsTo (List.replicate N 0) l1 l2 n2 s) wr (by rw [HLX.out]; exact hZ) (own_lt hZ hNp) (by rw [HLX.out]; omega) (by rw [HLX.out]; omega) hbd.out).mono ?_
      rintro e w3 ⟨v3, r, rfl, hown3, hbd3, hval3, hl3, hl4, hW3⟩
      have hv3 : vb 10000 r = ((dval a.data.toList * dval b.data.toList : Nat) : Int) := by rw [hval3 (by rw [hval.out]; omega), hval.out]
      have HV3 : Hid (vb 10000 r = ((dval a.data.toList * dval b.data.toList : Nat) : Int)) := hv3
      have hB3 : Below w.heap.size w w3 := hW.trans (hW3.mono (by omega))
      have hW3s := hB3.size
      rw [HLX.out] at hl3 hl4
      clear hv3 hval3 hX hY hZ hW
      go_wp2_with fail
      refine (l1Text_any w2.heap.size v3 r w3 hown3 (by omega) (by omega) hbd3).mono ?_
      rintro e w4 ⟨s4, rfl, hsc, hsv, hW4⟩
      have HS : Hid (canonB s4.data.toList = true ∧ (dval s4.data.toList : Int) = vb 10000 r) := ⟨hsc, hsv⟩
      clear hsc hsv hbd3
      go_wp2
      go_ret
      obtain ⟨hsc, hsv⟩ := HS.out
      have := HV3.out
      exact ⟨s4, rfl, hsc, by omega, hB3.trans (hW4.mono hW3s)⟩

theorem l1Mul_any (a b : ByteArray) (w : World) (hsa : a.size ≤ 600) (hsb : b.size ≤ 600) (ha : canonB a.data.toList = true) (hb : canonB b.data.toList = true) :
    Calls Tryd.prog 41 #[.string a, .string b] w fun e w' => ∃ s : ByteArray, e = .returned (.string s) ∧ canonB s.data.toList = true ∧ dval s.data.toList = dval a.data.toList * dval b.data.toList ∧ Below w.heap.size w w' :=
  l1Mul_big a b w (Nat.le_trans hsa (by decide)) (Nat.le_trans hsb (by decide)) ha hb

theorem mul_lt_pow (k j : Nat) {a b : Nat} (ha : a < 10 ^ k) (hb : b < 10 ^ j) : a * b < 10 ^ (k + j) := by
  rw [Nat.pow_add]
  exact Nat.mul_lt_mul'' ha hb

set_option maxHeartbeats 400000 in
theorem specMul_any (a b : ByteArray) (w : World) (hsa : a.size ≤ maxLen) (hsb : b.size ≤ maxLen) :
    Calls Tryd.prog 20 #[.string a, .string b] w fun e w' => Ans (goodB a.data.toList && goodB b.data.toList) (dval a.data.toList * dval b.data.toList) e ∧ Below w.heap.size w w' := by
  cases hg : (goodB a.data.toList && goodB b.data.toList) with
  | true =>
    have HG : Hid ((goodB a.data.toList && goodB b.data.toList) = true) := hg
    simp only [Bool.and_eq_true] at hg
    obtain ⟨ga, gb⟩ := hg
    have HA : Hid (canonB a.data.toList = true) := good_canon ga
    have HB : Hid (canonB b.data.toList = true) := good_canon gb
    have hla : a.size ≤ 600 := by have := good_len ga; simpa using this
    have hlb : b.size ≤ 600 := by have := good_len gb; simpa using this
    have HLT : Hid (dval a.data.toList * dval b.data.toList < 10 ^ (600 + 600)) := mul_lt_pow 600 600 (good_lt ga) (good_lt gb)
    clear ga gb
    go_enter Tryd.func20, Tryd.ntmps20
    go_wp2_with fail
    refine (l1Both_any a b _ hsa hsb).mono ?_
    rintro e w' ⟨rfl, rfl⟩
    rw [HG.out]
    go_wp2_with fail
    refine (l1Mul_big a b _ (by omega) (by omega) HA.out HB.out).mono ?_
    rintro e w1 ⟨s, rfl, hsc, hsv, hW1⟩
    have hs6 : s.size ≤ 600 + 600 := canon_size (k := 600 + 600) (by omega) hsc hsv HLT.out
    have HS : Hid (canonB s.data.toList = true ∧ dval s.data.toList = dval a.data.toList * dval b.data.toList) := ⟨hsc, hsv⟩
    clear hsc hsv
    go_wp2_with fail
    refine (l1Known_any s w1 (by unfold maxLen; omega)).mono ?_
    rintro e w2 ⟨he, rfl⟩
    have ht := known_tells HS.out.1 HS.out.2
    rw [← he] at ht
    obtain ⟨s2, rfl, h1, h2⟩ := ht
    have HT : Hid ((dval a.data.toList * dval b.data.toList < 10 ^ 600 → canonB s2.data.toList = true ∧ dval s2.data.toList = dval a.data.toList * dval b.data.toList) ∧ (¬ dval a.data.toList * dval b.data.toList < 10 ^ 600 → s2 = ⟨#[]⟩)) := ⟨h1, h2⟩
    clear he h1 h2
    obtain ⟨bb, hbb⟩ : ∃ bb, bb = decide (dval a.data.toList * dval b.data.toList < 10 ^ 600) := ⟨_, rfl⟩
    rw [← hbb]
    have HBB := hideT hbb
    clear hbb
    go_wp2
    go_ret2
    exact ⟨.inl ⟨rfl, s2, by rw [← HBB.out]; rfl, HT.out.1, HT.out.2⟩, hW1⟩
  | false =>
    have HG : Hid ((goodB a.data.toList && goodB b.data.toList) = false) := hg
    clear hg
    go_enter Tryd.func20, Tryd.ntmps20
    go_wp2_with fail
    refine (l1Both_any a b _ hsa hsb).mono ?_
    rintro e w' ⟨rfl, rfl⟩
    rw [HG.out]
    go_wp2
    go_ret2
    exact ⟨.inr ⟨rfl, rfl⟩, Below.refl _ _⟩

end Go.Proofs.YtmfpnbmfcoahbaaDoor

/-
  What spec.PowNat answers.
-/
namespace Go.Proofs.YtmfpnbmfcoahbaaDoor
open Go.RowKit
set_option linter.unusedVariables false

/-- May a be raised to n? -/
def powOk (a : ByteArray) (n : Int) : Bool := goodB a.data.toList && (decide (0 ≤ n) && decide (n ≤ 2000))

theorem Tells.big {n m : Nat} {e : Ending} (h : Tells n e) (hn : ¬ n < 10 ^ 600) (hm : ¬ m < 10 ^ 600) : Tells m e := by
  obtain ⟨s, rfl, h1, h2⟩ := h
  have := h2 hn
  subst this
  exact ⟨⟨#[]⟩, by rw [decide_eq_false hn, decide_eq_false hm], fun h => absurd h hm, fun _ => rfl⟩

theorem pow_zero_of {A j N : Nat} (h : A ^ j = 0) (hj : j ≤ N) : A ^ N = 0 := by
  have hA : A = 0 ∧ j ≠ 0 := by
    by_cases hA : A = 0
    · refine ⟨hA, fun e => ?_⟩
      subst e; simp at h
    · have := Nat.pow_pos (n := j) (Nat.pos_of_ne_zero hA); omega
  obtain ⟨rfl, hj0⟩ := hA
  exact Nat.zero_pow (by omega)

theorem pow_big_of {A j N : Nat} (B : Nat) (hB : 1 < B) (h : ¬ A ^ j < B) (hj : j ≤ N) : ¬ A ^ N < B := by
  by_cases hA : A = 0
  · subst hA
    by_cases e : j = 0
    · subst e
      simp only [Nat.pow_zero] at h
      by_cases e' : N = 0
      · subst e'; simpa using h
      · omega
    · rw [Nat.zero_pow (by omega)] at h; omega
  · have := Nat.pow_le_pow_right (Nat.pos_of_ne_zero hA) hj
    omega

theorem one_lt_ten (k : Nat) (hk : k ≠ 0) : 1 < 10 ^ k := Nat.one_lt_pow hk (by decide)

theorem pow_tells {A j N : Nat} {e : Ending} (hT : Tells (A ^ j) e) (hj : j ≤ N) (h : j = N ∨ A ^ j = 0 ∨ ¬ A ^ j < 10 ^ 600 ∨ A = 1) : Tells (A ^ N) e := by
  rcases h with rfl | h | h | rfl
  · exact hT
  · rw [pow_zero_of h hj]; rw [h] at hT; exact hT
  · by_cases hA : ¬ A ^ N < 10 ^ 600
    · exact hT.big h hA
    · exact absurd (Decidable.not_not.1 hA) (pow_big_of _ (one_lt_ten 600 (by decide)) h hj)
  · simpa using hT

end Go.Proofs.YtmfpnbmfcoahbaaDoor
