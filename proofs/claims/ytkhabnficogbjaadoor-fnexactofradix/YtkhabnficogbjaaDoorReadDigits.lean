/-
  What readDigits of impl answers.
-/
import Derived.Test.YtkhabnficogbjaaDoorTimesSmall
import Derived.Test.YtkhabnficogbjaaDoorRadix
import Derived.Test.YtkhabnficogbjaaDoorPlus
namespace Go.Proofs.YtkhabnficogbjaaDoor
open Go.RowKit
set_option linter.unusedVariables false

/-- At most 1200 digits just where there are at most 200 parts. -/
theorem Rep.fits2 {n k : Nat} {p : List Int} (h : Rep n k p) : k ≤ 200 ↔ n < 10 ^ 1200 := by
  have e : ((10 ^ 1200 : Nat) : Int) = 1000000 ^ 200 := by decide +kernel
  constructor
  · intro hk
    have h1 := h.lt
    have : (1000000 : Int) ^ k ≤ 1000000 ^ 200 := ipow_le hk
    omega
  · intro hn
    by_cases hk : k ≤ 200
    · exact hk
    · have h2 := h.ge (by omega)
      have : (1000000 : Int) ^ 200 ≤ 1000000 ^ (k - 1) := ipow_le (by omega)
      omega

/-- Are these 1..2000 digits of the radix, which tell a number of at most 1200 digits? -/
def rdOk (b : Nat) (s : ByteArray) : Bool := (decide (1 ≤ s.size) && decide (s.size ≤ 2000)) && (rdigs b s.data.toList && decide (rval b s.data.toList < 10 ^ 1200))

theorem rd_bad {b : Nat} {s : ByteArray} (i : Nat) (h : i < s.size) (hb : ¬ dg s[i] < b) : rdOk b s = false := by
  have : rdigs b s.data.toList = false := by
    unfold rdigs
    rw [List.all_eq_false]
    exact ⟨s.data.toList[i]'(by simpa using h), List.getElem_mem _, fun h => hb (of_decide_eq_true h)⟩
  unfold rdOk; rw [this, Bool.false_and, Bool.and_false]

theorem rd_long {b : Nat} {s : ByteArray} (i : Nat) (hb : 1 ≤ b) (hv : ¬ rval b (s.data.toList.take i) < 10 ^ 1200) : rdOk b s = false := by
  have h1 := rval_mono b hb (s.data.toList.take i) (s.data.toList.drop i)
  rw [List.take_append_drop] at h1
  have h2 : ¬ rval b s.data.toList < 10 ^ 1200 := fun h => hv (Nat.lt_of_le_of_lt h1 h)
  unfold rdOk; rw [decide_eq_false h2, Bool.and_false, Bool.and_false]

theorem rd_take (b : Nat) (s : ByteArray) (i : Nat) (h : i < s.size) : rval b (s.data.toList.take (i + 1)) = b * rval b (s.data.toList.take i) + dg s[i] := by
  rw [take_snoc s i h, rval_snoc]

theorem zero_rep : Rep 0 0 zP :=
  ⟨zP_len, by omega, fun i => by rw [zP_get]; omega, fun i => by rw [zP_get]; omega, fun i _ => zP_get i, fun h => absurd h (by omega), by rw [vb_zero _ _ zP_get]; rfl⟩

set_option maxHeartbeats 1000000 in
set_option maxRecDepth 100000 in
theorem readDigits_any (s : ByteArray) (b : Nat) (r : Int) (w : World) (hs : s.size ≤ maxLen) (hr : r = (b : Int)) (hr0 : 2 ≤ r) (hr1 : r ≤ 16) :
    Calls Tryd.prog 17 #[.string s, .int .i64 r] w fun e w' => ∃ (i : Nat) (q : List Int), e = .returned (.tuple #[.agg (natC i q), .bool (rdOk b s)]) ∧ q.length = 204 ∧ (rdOk b s = true → Rep (rval b s.data.toList) i q) ∧ Below w.heap.size w w' := by
  have hz := zero_nat.1
  unfold maxLen at hs
  have HR := hide hr
  have A := (NatAt.new w 0 zP).old (.cells (natC 0 zP) 31)
  have B := NatAt.new (w.alloc (.cells (natC 0 zP) 31)) 0 zP
  have hB : Below w.heap.size w ((w.alloc (.cells (natC 0 zP) 31)).alloc (.cells (natC 0 zP) 31)) := ((Below.refl _ _).alloc (Nat.le_refl _) _).alloc (by simp) _
  simp only [World.size_alloc] at B
  clear hr
  by_cases hl : 1 ≤ (s.size : Int) ∧ (s.size : Int) ≤ 2000
  · obtain ⟨hl1, hl2⟩ := hl
    go_enter Tryd.func17, Tryd.ntmps17
    go_wp2
    go_loopg [20] s.size (fun g x wr => ∃ (t kc : Nat) (pc : List Int), g = s.size - t ∧ t ≤ s.size ∧ x = .int .i64 (t : Int) ∧ Hid (Rep (rval b (s.data.toList.take t)) kc pc) ∧ Hid (rdigs b (s.data.toList.take t) = true) ∧ kc ≤ 200 ∧ pc.length = 204 ∧ NatAt wr w.heap.size 0 zP ∧ NatAt wr (w.heap.size + 1) kc pc ∧ Below w.heap.size w wr)
    case atStart => exact ⟨0, 0, zP, rfl, by omega, rfl, zero_rep, rfl, by omega, zP_len, A, B, hB⟩
    case round =>
      obtain ⟨t, kc, pc, rfl, ht, rfl, HC, HDG, hkc, hpc, hA, hBn, hW⟩ := hrel
      clear A B hB
      have hWs := hW.size
      have lB := hBn.lt
      by_cases hlt : (t : Int) < (s.size : Int)
      · have ht' : t < s.size := by omega
        obtain ⟨d, hd⟩ : ∃ d : Int, d = digI ((s[t]'ht').toNat : Int) := ⟨_, rfl⟩
        have hdn : d = (dg s[t] : Int) := by rw [hd, dg_cast]
        have hd0 : 0 ≤ d := by omega
        have hd1 : d ≤ 16 := by have := dg_le s[t]; omega
        have hcb : ((s[t]'ht').toNat : Int) ≤ 255 := by have := (s[t]'ht').toNat_lt; omega
        have HD := hide (And.intro hd hdn)
        clear hd hdn
        go_wp2_with fail
        refine (digitOf_any ((s[t]'ht').toNat : Int) _ (by omega) hcb).mono ?_
        rintro e w' ⟨rfl, rfl⟩
        rw [← HD.out.1]
        by_cases hbad : r ≤ d
        · have HN : Hid (rdOk b s = false) := rd_bad t ht' (by have := HD.out.2; have := HR.out; omega)
          go_wp2_with (first | (refine load_nat rfl _ rfl (w.heap.size + 1) rfl kc pc hBn hpc ?_) | (refine store_nat rfl _ _ rfl rfl w.heap.size kc pc rfl rfl 0 zP hA zP_len hpc ?_; intro w1 hN1 hg1 hs1))
          refine bodyPost_ret (v := .tuple #[.agg (natC kc pc), .bool false]) (res_nat_tmp Tryd.results17 _ _ w.heap.size _ _ _ rfl rfl hN1 hpc) rfl ⟨kc, pc, by rw [HN.out], hpc, (fun h => by rw [HN.out] at h; cases h), ?_⟩
          exact hW.grown hg1 (by omega) (by intro k hk; cases hk; omega)
        · go_wp2_with (first | (refine load_nat rfl _ rfl (w.heap.size + 1) rfl kc pc hBn hpc ?_))
          refine (timesSmall_any r d w' b (dg s[t]) HC.out (by omega) HR.out HD.out.2 (by omega) hr1 hd0 hd1).mono ?_
          rintro e w2 ⟨i, q, rfl, hR, hW2⟩
          have hq := hR.len
          rw [← rd_take b s t ht'] at hR
          have HR2 := hide hR
          have hA2 := hA.below hW2 (by omega)
          have hB2 := hBn.below hW2 (by omega)
          have hW2' : Below w.heap.size w w2 := hW.trans (hW2.mono (by omega))
          have hs2 := hW2.size
          have HDG2 : Hid (rdigs b (s.data.toList.take (t + 1)) = true) := by
            unfold Hid rdigs
            rw [take_snoc s t ht', List.all_append]
            have h1 := HDG.out
            unfold rdigs at h1
            rw [h1]
            simp
            have := HD.out.2; have := HR.out; omega
          clear hR hA hBn hW hW2 HDG HC
          by_cases hf : (i : Int) ≤ 200
          · have hf' : ¬ (200 : Int) < (i : Int) := by omega
            go_wp2_with (first | (refine store_nat rfl _ _ rfl rfl (w.heap.size + 1) i q rfl rfl kc pc hB2 hpc hq ?_; intro w3 hN3 hg3 hs3; have c0 := hN3.c0))
            have hA3 := hA2.grown hg3 (by simp)
            have hW3 : Below w.heap.size w w3 := hW2'.grown hg3 (by omega) (by intro k hk; cases hk; omega)
            go_roundg (s.size - (t + 1))
            case measure => omega
            case rel => exact ⟨t + 1, i, q, rfl, by omega, by go_num, HR2, HDG2, by omega, hq, hA3, hN3, hW3⟩
          · have HN : Hid (rdOk b s = false) := rd_long (t + 1) (by have := HR.out; omega) (fun h => hf (by have := HR2.out.fits2.2 h; omega))
            have hf' : (200 : Int) < (i : Int) := by omega
            go_wp2_with (first | (refine store_nat rfl _ _ rfl rfl (w.heap.size + 1) i q rfl rfl kc pc hB2 hpc hq ?_; intro w3 hN3 hg3 hs3; have c0 := hN3.c0; have hA3 := hA2.grown hg3 (by simp)) | (refine load_nat rfl _ rfl (w.heap.size + 1) rfl i q hN3 hq ?_) | (refine store_nat rfl _ _ rfl rfl w.heap.size i q rfl rfl 0 zP hA3 zP_len hq ?_; intro w5 hN5 hg5 hs5))
            have hW3 : Below w.heap.size w w3 := hW2'.grown hg3 (by omega) (by intro k hk; cases hk; omega)
            refine bodyPost_ret (v := .tuple #[.agg (natC i q), .bool false]) (res_nat_tmp Tryd.results17 _ _ w.heap.size _ _ _ rfl rfl hN5 hq) rfl ⟨i, q, by rw [HN.out], hq, (fun h => by rw [HN.out] at h; cases h), ?_⟩
            exact hW3.grown hg5 (by omega) (by intro k hk; cases hk; omega)
      · have hts : t = s.size := by omega
        have htk : s.data.toList.take t = s.data.toList := by rw [hts]; exact List.take_of_length_le (by simp)
        rw [htk] at HC HDG
        have HN : Hid (rdOk b s = true) := by
          have h1 := HC.out.fits2.1 hkc
          unfold Hid rdOk
          rw [HDG.out, decide_eq_true h1, decide_eq_true (by omega), decide_eq_true (by omega)]; rfl
        clear hts htk
        go_wp2_with (first | (refine load_nat rfl _ rfl (w.heap.size + 1) rfl kc pc hBn hpc ?_) | (refine store_nat rfl _ _ rfl rfl w.heap.size kc pc rfl rfl 0 zP hA zP_len hpc ?_; intro w1 hN1 hg1 hs1))
        refine bodyPost_ret (v := .tuple #[.agg (natC kc pc), .bool true]) (res_nat_tmp Tryd.results17 _ _ w.heap.size _ _ _ rfl rfl hN1 hpc) rfl ⟨kc, pc, by rw [HN.out], hpc, (fun _ => HC.out), ?_⟩
        exact hW.grown hg1 (by omega) (by intro k hk; cases hk; omega)
  · have HN : Hid (rdOk b s = false) := by
      unfold Hid rdOk
      have : (decide (1 ≤ s.size) && decide (s.size ≤ 2000)) = false := by simp; omega
      rw [this]; rfl
    have hl' : (s.size : Int) < 1 ∨ (2000 : Int) < (s.size : Int) := by omega
    clear hl
    rcases hl' with hl | hl
    all_goals
      go_enter Tryd.func17, Tryd.ntmps17
      go_wp2_with (first | (refine load_nat rfl _ rfl (w.heap.size + 1) rfl 0 zP B zP_len ?_) | (refine store_nat rfl _ _ rfl rfl w.heap.size 0 zP rfl rfl 0 zP A zP_len zP_len ?_; intro w1 hN1 hg1 hs1))
      refine bodyPost_ret (v := .tuple #[.agg (natC 0 zP), .bool false]) (res_nat_tmp Tryd.results17 _ _ w.heap.size _ _ _ rfl rfl hN1 zP_len) rfl ⟨0, zP, by rw [HN.out]; rfl, zP_len, (fun h => by rw [HN.out] at h; cases h), ?_⟩
      exact hB.grown hg1 (by simp; omega) (by intro k hk; cases hk; exact Nat.le_refl _)
end Go.Proofs.YtkhabnficogbjaaDoor
