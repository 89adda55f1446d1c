/-
  What readTerms of impl answers.
-/
import Derived.Test.YtcdidibphaemoaaReadNumA
import Derived.Test.YtcdidibphaemoaaHeldMid
namespace Go.Proofs.Ytcdidibphaemoaa
open Go.RowKit
set_option linter.unusedVariables false

/-- Is it a number but for lowest terms? -/
def okT (l : List UInt8) : Bool := (goodB (overN l) && !(negN l && decide (dval (overN l) = 0))) && (!brokenN l || (goodB (underN l) && (decide (dval (underN l) ≠ 0) && decide (dval (underN l) ≠ 1))))
/-- What readTerms should hand back. -/
def ReadT (l : List UInt8) (e : Ending) : Prop := ∃ (g : Bool) (k j : Nat) (p q : List Int), e = .returned (.tuple #[.agg (numC g k p j q), .bool (okT l)]) ∧ p.length = 204 ∧ q.length = 204 ∧ (okT l = true → g = negN l ∧ Rep (topN l) k p ∧ Rep (botN l) j q ∧ k ≤ 100 ∧ j ≤ 100 ∧ j ≠ 0)

theorem okN_eq (l : List UInt8) : okN l = (okT l && (decide (botN l = 1) || decide (Nat.gcd (topN l) (botN l) = 1))) := by
  unfold okN okT botN topN
  cases brokenN l with
  | false => simp
  | true =>
    simp only [Bool.not_true, Bool.false_or, if_true]
    by_cases h1 : dval (underN l) = 1
    · simp [h1]
    · by_cases h0 : dval (underN l) = 0
      · simp [h0]
      · simp [h0, h1, Bool.and_assoc]

theorem run_row_num {o : Oper} {a : Act} {w : World} (x : Operand) (ho : o.op = .load 34 x) (b : Nat) (hx : a.eval x = .pointer (some ⟨b, 0, none⟩)) (g : Bool) (u : Int) (p : List Int) (v : Int) (q : List Int) (hN : NumAt w b g u p v q) (hl : p.length = 204) (hm : q.length = 204) :
    (execOp a.eval o).run Try.prog w = .ok (.value (.agg (numC g u p v q))) w := by
  unfold execOp
  simp only [ho, hx, Instr.loadAt, Instr.sureAddr, Sem.run_bind, Sem.run_pure, Result.andThen_ok, run_loadVar_row w b 34 34 (numC g u p v q) (0, 0) _ hN Try.underlying34 rfl (num_info g u p v q hl hm)]

theorem one_lt' (k : Nat) (hk : k ≠ 0) : 1 < 10 ^ k := Nat.one_lt_pow hk (by decide)
theorem good_lt' {l : List UInt8} (h : goodB l = true) : dval l < 10 ^ 600 := (canon_len_le (good_canon h) 600 (by omega)).1 (good_len h)

set_option maxHeartbeats 6000000 in
set_option maxRecDepth 100000 in
theorem readTerms_any (s : ByteArray) (w : World) (hs : s.size ≤ maxLen) :
    Calls Try.prog 16 #[.string s] w fun e w' => ReadT s.data.toList e ∧ Below w.heap.size w w' := by
  have hz := zero_nat.1
  have hz1 := zero_whole.1
  have hz2 := zero_num.1
  have A := NumAt.new w false 0 zP 0 zP
  have hB : Below w.heap.size w (w.alloc (.cells (numC false 0 zP 0 zP) 34)) := (Below.refl _ _).alloc (Nat.le_refl _) _
  go_enter Try.func16, Try.ntmps16
  go_wp2_with fail
  refine (cutPrefix_any s _ hs).mono ?_
  rintro e w1 ⟨t, rfl, ht, rfl⟩
  have hts : t.size ≤ maxLen := by
    have h1 : t.data.toList.length = t.size := by simp
    have h2 : s.data.toList.length = s.size := by simp
    have : (bodyN s.data.toList).length ≤ s.data.toList.length := by unfold bodyN; split <;> simp
    rw [← ht] at this; omega
  have HTT := hide ht
  clear ht
  go_wp2_with fail
  refine (cut_any t _ hts).mono ?_
  rintro e w2 ⟨o, u, rfl, ho, hu, hW2⟩
  rw [HTT.out] at ho hu ⊢
  have hcs := cut_size (bodyN s.data.toList)
  have hos : o.size ≤ maxLen := by
    have h1 : o.data.toList.length = o.size := by simp
    have h2 : t.data.toList.length = t.size := by simp
    rw [HTT.out] at h2
    rw [ho] at h1; omega
  have hus : u.size ≤ maxLen := by
    have h1 : u.data.toList.length = u.size := by simp
    have h2 : t.data.toList.length = t.size := by simp
    rw [HTT.out] at h2
    rw [hu] at h1; omega
  have HO : Hid (o.data.toList = overN s.data.toList ∧ u.data.toList = underN s.data.toList) := ⟨ho, hu⟩
  obtain ⟨bk, hbk⟩ : ∃ bk, bk = (cut47 (bodyN s.data.toList)).2.2 := ⟨_, rfl⟩
  rw [← hbk]
  have HBK : Hid (bk = brokenN s.data.toList) := hbk
  obtain ⟨ng, hng⟩ : ∃ ng, ng = negN s.data.toList := ⟨_, rfl⟩
  rw [← hng]
  have HNG := hide hng
  have A2 : NumAt w2 w.heap.size false 0 zP 0 zP := A.below hW2 (by simp)
  have hB2 : Below w.heap.size w w2 := hB.trans (hW2.mono (by simp))
  have hs2 := hW2.size
  simp only [World.size_alloc] at hs2
  clear ho hu hcs hbk hng A hB hW2 HTT
  go_wp2_with fail
  refine (readNat_any o _ hos).mono ?_
  rintro e w3 ⟨k, p, oa, rfl, hRa, hW3⟩
  have hp := hRa.len
  have hs3 := hW3.size
  have A3 : NumAt w3 w.heap.size false 0 zP 0 zP := A2.below hW3 (by omega)
  have hB3 : Below w.heap.size w w3 := hB2.trans (hW3.mono (by omega))
  have F := NatAt.new w3 0 zP
  clear A2 hB2 hW3
  -- no number
  have NO : Hid (okT s.data.toList = false → ReadT s.data.toList (.returned (.tuple #[.agg (numC false 0 zP 0 zP), .bool false]))) := fun h => ⟨false, 0, 0, zP, zP, by rw [h]; rfl, zP_len, zP_len, fun h' => by rw [h] at h'; cases h'⟩
  have hok : oa = goodB (overN s.data.toList) := by rw [← HO.out.1]; exact hRa.ok
  cases hg : oa with
  | false =>
    subst hg
    have HN : Hid (okT s.data.toList = false) := by unfold Hid okT; rw [← hok]; rfl
    clear hok hRa
    go_wp2_with (first | (refine store_nat rfl _ _ rfl rfl w3.heap.size k p rfl rfl 0 zP F zP_len hp ?_; intro w4 hN4 hg4 hs4; have c0 := hN4.c0; have A4 : NumAt w4 w.heap.size false 0 zP 0 zP := (RowAt.old A3 (.cells (natC 0 zP) 30)).grown hg4 (by first | (simp; done) | (simp; omega))) | (refine build_num0 rfl rfl _ rfl ?_) | (refine store_num rfl _ _ rfl rfl w.heap.size false 0 zP 0 zP rfl rfl false 0 zP 0 zP A4 zP_len zP_len zP_len zP_len ?_; intro w5 hN5 hg5 hs5))
    refine bodyPost_ret (v := .tuple #[.agg (numC false 0 zP 0 zP), .bool false]) (res_num_tmp Try.results16 _ _ w.heap.size _ _ _ _ _ _ rfl rfl hN5 zP_len zP_len) rfl ⟨NO.out HN.out, ?_⟩
    exact ((hB3.alloc (by omega) _).grown hg4 (by first | (simp; done) | (simp; omega)) (by intro k hk; cases hk; omega)).grown hg5 (by rw [hs4]; simp; omega) (by intro k hk; cases hk; omega)
  | true =>
    subst hg
    have hgo : goodB o.data.toList = true := by rw [HO.out.1]; exact hok.symm
    have ra : Rep (topN s.data.toList) k p := by unfold topN; rw [← HO.out.1]; exact hRa.rep hgo
    have hk : k ≤ 100 := by
      have h1 : topN s.data.toList < 10 ^ 600 := by unfold topN; rw [← HO.out.1]; exact good_lt' hgo
      exact ra.fits.2 h1
    have RA := hide ra
    have HGO : Hid (goodB (overN s.data.toList) = true) := hok.symm
    clear hok hRa hgo ra
    by_cases hbad : ng = true ∧ k = 0
    · have HN : Hid (okT s.data.toList = false) := by
        unfold Hid okT
        have h0 : dval (overN s.data.toList) = 0 := RA.out.zero_iff.1 hbad.2
        rw [HGO.out, ← HNG.out, hbad.1, h0]; rfl
      obtain ⟨h1, h2⟩ := hbad
      have h2' : ((k : Int) == 0) = true := by simp [h2]
      subst h1
      clear h2
      go_wp2_with (first | (refine store_nat rfl _ _ rfl rfl w3.heap.size k p rfl rfl 0 zP F zP_len hp ?_; intro w4 hN4 hg4 hs4; have c0 := hN4.c0; have A4 : NumAt w4 w.heap.size false 0 zP 0 zP := (RowAt.old A3 (.cells (natC 0 zP) 30)).grown hg4 (by first | (simp; done) | (simp; omega))) | (refine build_num0 rfl rfl _ rfl ?_) | (refine store_num rfl _ _ rfl rfl w.heap.size false 0 zP 0 zP rfl rfl false 0 zP 0 zP A4 zP_len zP_len zP_len zP_len ?_; intro w5 hN5 hg5 hs5))
      refine bodyPost_ret (v := .tuple #[.agg (numC false 0 zP 0 zP), .bool false]) (res_num_tmp Try.results16 _ _ w.heap.size _ _ _ _ _ _ rfl rfl hN5 zP_len zP_len) rfl ⟨NO.out HN.out, ?_⟩
      exact ((hB3.alloc (by omega) _).grown hg4 (by first | (simp; done) | (simp; omega)) (by intro k hk; cases hk; omega)).grown hg5 (by rw [hs4]; simp; omega) (by intro k hk; cases hk; omega)
    · have HSG : Hid ((goodB (overN s.data.toList) && !(negN s.data.toList && decide (dval (overN s.data.toList) = 0))) = true) := by
        unfold Hid
        rw [HGO.out, ← HNG.out]
        cases ng with
        | false => rfl
        | true =>
          have : dval (overN s.data.toList) ≠ 0 := fun e => hbad ⟨rfl, RA.out.zero_iff.2 e⟩
          simp [this]
      have hbad' : ng = false ∨ ((k : Int) == 0) = false := by
        cases ng with
        | false => exact .inl rfl
        | true => right; rw [beq_eq_false_iff_ne]; intro e; exact hbad ⟨rfl, by omega⟩
      clear hbad
      cases ng with
      | false =>
        clear hbad'
        go_wp2_with (refine store_nat rfl _ _ rfl rfl w3.heap.size k p rfl rfl 0 zP F zP_len hp ?_; intro w4 hN4 hg4 hs4; have c0 := hN4.c0)
        have hs4' : w4.heap.size = w3.heap.size + 1 := by rw [hs4]; simp
        have A4 : NumAt w4 w.heap.size false 0 zP 0 zP := (RowAt.old A3 (.cells (natC 0 zP) 30)).grown hg4 (by first | (simp; done) | (simp; omega))
        have hB4 : Below w.heap.size w w4 := (hB3.alloc (by omega) _).grown hg4 (by first | (simp; done) | (simp; omega)) (by intro k hk; cases hk; omega)
        clear A3 hB3 F hg4 hs4 c0
        refine region_make "l2_num.go:164" false k p hp w3.heap.size w.heap.size rfl rfl (by simp) hz2 hN4 A4 ?_
        intro b0 i r w7 hN7 N7 A7 hR hb0 hlt7 hW7
        have hr := hR.len
        have hB7 : Below w.heap.size w w7 := hB4.trans (hW7.mono hB4.size)
        have hb3 : w3.heap.size < b0 := by omega
        have hsB4 := hB4.size
        clear hN4 A4 hB4 hW7
        simp only [Act.put, List.setIfInBounds_toArray, List.set_cons_zero, List.set_cons_succ]
        have hi := (hR.fits.2 (one_lt' 600 (by decide)))
        have hi0 : i ≠ 0 := fun e => by have := hR.zero_iff.1 e; omega
        have HR1 := hide hR
        clear hR
        cases bk with
        | false =>
          have HN : Hid (okT s.data.toList = true) := by unfold Hid okT; rw [HSG.out, ← HBK.out]; rfl
          have HRD : Hid (ReadT s.data.toList (.returned (.tuple #[.agg (numC false k p i r), .bool true]))) := ⟨false, k, i, p, r, by rw [HN.out], hp, hr, fun _ => ⟨HNG.out, RA.out, by unfold botN; rw [← HBK.out]; exact HR1.out, hk, hi, hi0⟩⟩
          go_wp2_with (first | (refine load_num rfl _ rfl b0 rfl false k p i r hN7 hp hr ?_) | (refine store_num rfl _ _ rfl rfl w.heap.size false k p i r rfl rfl false 0 zP 0 zP A7 zP_len zP_len hp hr ?_; intro w8 hN8 hg8 hs8))
          refine bodyPost_ret (v := .tuple #[.agg (numC false k p i r), .bool true]) (res_num_tmp Try.results16 _ _ w.heap.size _ _ _ _ _ _ rfl rfl hN8 hp hr) rfl ⟨HRD.out, ?_⟩
          exact hB7.grown hg8 (by have := hB7.size; omega) (by intro k hk; cases hk; omega)
        | true =>
          go_wp2_with fail
          refine (readNat_any u _ hus).mono ?_
          rintro e w8 ⟨m, q, ob, rfl, hRb, hW8⟩
          have hq := hRb.len
          have hs8 := hW8.size
          have A8 : NumAt w8 w.heap.size false 0 zP 0 zP := A7.below hW8 (by omega)
          have M8 : NumAt w8 b0 false k p i r := hN7.below hW8 hlt7
          have hB8 : Below w.heap.size w w8 := hB7.trans (hW8.mono hB7.size)
          clear A7 N7 hN7 hB7 hW8
          have hokb : ob = goodB (underN s.data.toList) := by rw [← HO.out.2]; exact hRb.ok
          cases hob : ob with
          | false =>
            subst hob
            have HN : Hid (okT s.data.toList = false) := by unfold Hid okT; rw [← HBK.out, ← hokb, HSG.out]; rfl
            clear hokb hRb
            go_wp2_with (refine store_bottom rfl _ _ rfl rfl b0 m q rfl rfl false k p i r M8 hp hr hq ?_; intro w9 M9 hg9 hs9)
            have A9 : NumAt w9 w.heap.size false 0 zP 0 zP := RowAt.grown A8 hg9 (by simp; omega)
            have hB9 : Below w.heap.size w w9 := hB8.grown hg9 (by have := hB8.size; omega) (by intro k hk; cases hk; omega)
            have hlt9 := M9.lt
            have hltA := A9.lt
            have hwb : w.heap.size < b0 := by omega
            clear A8 M8 hB8 hg9
            refine held_begin (fun w' => NumAt w' b0 false k p m q ∧ True) (by kernel_rfl) ?_
            have hS : NumAt w9.drew b0 false k p m q ∧ True := ⟨M9, trivial⟩
            refine held_valS 0 (some 52) rfl rfl (by kernel_rfl) (by kernel_rfl) (by kernel_rfl) noPanic_put rfl (.agg (numC false k p m q)) (fun _ h => run_row_num _ rfl b0 rfl false k p m q h.1 hp hq) hS ?_
            simp only [Act.put, List.setIfInBounds_toArray, List.set_cons_zero, List.set_cons_succ]
            refine held_valS 1 (some 53) rfl rfl (by kernel_rfl) (by kernel_rfl) (by kernel_rfl) noPanic_put rfl (.bool false) (fun _ _ => by go_simp) hS ?_
            simp only [Act.put, List.setIfInBounds_toArray, List.set_cons_zero, List.set_cons_succ]
            refine held_valS 2 (some 54) rfl rfl (by kernel_rfl) (by kernel_rfl) (by kernel_rfl) noPanic_put rfl (.bool false) (fun _ _ => by go_simp) hS ?_
            simp only [Act.put, List.setIfInBounds_toArray, List.set_cons_zero, List.set_cons_succ]
            refine held_skip 3 (some 55) rfl rfl (by kernel_rfl) (by kernel_rfl) (by kernel_rfl) noPanic_put rfl hS ?_
            simp only [Act.put, List.setIfInBounds_toArray, List.set_cons_zero, List.set_cons_succ]
            refine held_skip 4 (some 56) rfl rfl (by kernel_rfl) (by kernel_rfl) (by kernel_rfl) noPanic_put rfl hS ?_
            simp only [Act.put, List.setIfInBounds_toArray, List.set_cons_zero, List.set_cons_succ]
            refine held_skip 5 (some 57) rfl rfl (by kernel_rfl) (by kernel_rfl) (by kernel_rfl) noPanic_put rfl hS ?_
            simp only [Act.put, List.setIfInBounds_toArray, List.set_cons_zero, List.set_cons_succ]
            refine held_skip 6 (some 58) rfl rfl (by kernel_rfl) (by kernel_rfl) (by kernel_rfl) noPanic_put rfl hS ?_
            simp only [Act.put, List.setIfInBounds_toArray, List.set_cons_zero, List.set_cons_succ]
            refine held_valS 7 (some 59) rfl rfl (by kernel_rfl) (by kernel_rfl) (by kernel_rfl) noPanic_put rfl (.bool false) (fun _ _ => by go_simp) hS ?_
            simp only [Act.put, List.setIfInBounds_toArray, List.set_cons_zero, List.set_cons_succ]
            refine held_valS 8 (some 60) rfl rfl (by kernel_rfl) (by kernel_rfl) (by kernel_rfl) noPanic_put rfl (.bool false) (fun _ _ => by go_simp) hS ?_
            simp only [Act.put, List.setIfInBounds_toArray, List.set_cons_zero, List.set_cons_succ]
            refine held_skip 9 (some 61) rfl rfl (by kernel_rfl) (by kernel_rfl) (by kernel_rfl) noPanic_put rfl hS ?_
            simp only [Act.put, List.setIfInBounds_toArray, List.set_cons_zero, List.set_cons_succ]
            refine held_skip 10 (some 62) rfl rfl (by kernel_rfl) (by kernel_rfl) (by kernel_rfl) noPanic_put rfl hS ?_
            simp only [Act.put, List.setIfInBounds_toArray, List.set_cons_zero, List.set_cons_succ]
            refine held_skip 11 (some 63) rfl rfl (by kernel_rfl) (by kernel_rfl) (by kernel_rfl) noPanic_put rfl hS ?_
            simp only [Act.put, List.setIfInBounds_toArray, List.set_cons_zero, List.set_cons_succ]
            refine held_valS 12 (some 64) rfl rfl (by kernel_rfl) (by kernel_rfl) (by kernel_rfl) noPanic_put rfl (.bool false) (fun _ _ => by go_simp) hS ?_
            simp only [Act.put, List.setIfInBounds_toArray, List.set_cons_zero, List.set_cons_succ]
            refine held_store_num 13 (by kernel_rfl) rfl rfl (.tmp 2) (.tmp 52) rfl rfl w.heap.size false k p m q rfl rfl false 0 zP 0 zP A9 zP_len zP_len hp hq ?_
            intro wf hNf hgf hsf
            refine ⟨⟨RowAt.grown hS.1 hgf (by simp; omega), trivial⟩, ?_⟩
            refine held_assign 14 (some 3) (by kernel_rfl) rfl rfl _ rfl rfl _ rfl ⟨RowAt.grown hS.1 hgf (by simp; omega), trivial⟩ ?_
            simp only [Act.put, List.setIfInBounds_toArray, List.set_cons_zero, List.set_cons_succ]
            refine wpAnyH_done (by kernel_rfl) ?_ _
            refine NoPanic.normal ?_
            go_wp2
            refine bodyPost_ret (v := .tuple #[.agg (numC false k p m q), .bool false]) (res_num_tmp Try.results16 _ _ w.heap.size _ _ _ _ _ _ rfl rfl hNf hp hq) rfl ⟨?_, ?_⟩
            · exact ⟨false, k, m, p, q, by rw [HN.out], hp, hq, fun h => by rw [HN.out] at h; cases h⟩
            · exact hB9.drew.grown hgf (by have := hB9.size; simp; omega) (by intro k hk; cases hk; omega)
          | true =>
            subst hob
            have hgu : goodB u.data.toList = true := by rw [HO.out.2]; exact hokb.symm
            have rb : Rep (dval (underN s.data.toList)) m q := by rw [← HO.out.2]; exact hRb.rep hgu
            have hm : m ≤ 100 := by
              have h1 : dval (underN s.data.toList) < 10 ^ 600 := by rw [← HO.out.2]; exact good_lt' hgu
              exact rb.fits.2 h1
            have RB := hide rb
            have HGU : Hid (goodB (underN s.data.toList) = true) := hokb.symm
            clear hokb hRb hgu rb
            by_cases hm0 : m = 0
            · have HN : Hid (okT s.data.toList = false) := by
                unfold Hid okT; rw [← HBK.out, HGU.out, HSG.out, RB.out.zero_iff.1 hm0]; rfl
              have hm0' : ¬ 0 < (m : Int) := by omega
              clear hm0
              go_wp2_with (refine store_bottom rfl _ _ rfl rfl b0 m q rfl rfl false k p i r M8 hp hr hq ?_; intro w9 M9 hg9 hs9)
              have A9 : NumAt w9 w.heap.size false 0 zP 0 zP := RowAt.grown A8 hg9 (by simp; omega)
              have hB9 : Below w.heap.size w w9 := hB8.grown hg9 (by have := hB8.size; omega) (by intro k hk; cases hk; omega)
              have hlt9 := M9.lt
              have hltA := A9.lt
              have hwb : w.heap.size < b0 := by omega
              clear A8 M8 hB8 hg9
              refine held_begin (fun w' => NumAt w' b0 false k p m q ∧ True) (by kernel_rfl) ?_
              have hS : NumAt w9.drew b0 false k p m q ∧ True := ⟨M9, trivial⟩
              refine held_valS 0 (some 52) rfl rfl (by kernel_rfl) (by kernel_rfl) (by kernel_rfl) noPanic_put rfl (.agg (numC false k p m q)) (fun _ h => run_row_num _ rfl b0 rfl false k p m q h.1 hp hq) hS ?_
              simp only [Act.put, List.setIfInBounds_toArray, List.set_cons_zero, List.set_cons_succ]
              refine held_valS 1 (some 53) rfl rfl (by kernel_rfl) (by kernel_rfl) (by kernel_rfl) noPanic_put rfl (.bool true) (fun _ _ => by go_simp) hS ?_
              simp only [Act.put, List.setIfInBounds_toArray, List.set_cons_zero, List.set_cons_succ]
              refine held_valS 2 (some 54) rfl rfl (by kernel_rfl) (by kernel_rfl) (by kernel_rfl) noPanic_put rfl (.bool true) (fun _ _ => by go_simp) hS ?_
              simp only [Act.put, List.setIfInBounds_toArray, List.set_cons_zero, List.set_cons_succ]
              refine held_valS 3 (some 55) rfl rfl (by kernel_rfl) (by kernel_rfl) (by kernel_rfl) noPanic_put rfl (.pointer (some ⟨b0, 206, none⟩)) (fun _ _ => by go_simp) hS ?_
              simp only [Act.put, List.setIfInBounds_toArray, List.set_cons_zero, List.set_cons_succ]
              refine held_valS 4 (some 56) rfl rfl (by kernel_rfl) (by kernel_rfl) (by kernel_rfl) noPanic_put rfl (.pointer (some ⟨b0, 206, none⟩)) (fun _ _ => by go_simp) hS ?_
              simp only [Act.put, List.setIfInBounds_toArray, List.set_cons_zero, List.set_cons_succ]
              refine held_valS 5 (some 57) rfl rfl (by kernel_rfl) (by kernel_rfl) (by kernel_rfl) noPanic_put rfl (.int .i64 m) (fun _ h => by have c := h.1.bused hp; go_simp) hS ?_
              simp only [Act.put, List.setIfInBounds_toArray, List.set_cons_zero, List.set_cons_succ]
              refine held_valS 6 (some 58) rfl rfl (by kernel_rfl) (by kernel_rfl) (by kernel_rfl) noPanic_put rfl (.bool false) (fun _ _ => by go_simp; omega) hS ?_
              simp only [Act.put, List.setIfInBounds_toArray, List.set_cons_zero, List.set_cons_succ]
              refine held_valS 7 (some 59) rfl rfl (by kernel_rfl) (by kernel_rfl) (by kernel_rfl) noPanic_put rfl (.bool false) (fun _ _ => by go_simp) hS ?_
              simp only [Act.put, List.setIfInBounds_toArray, List.set_cons_zero, List.set_cons_succ]
              refine held_valS 8 (some 60) rfl rfl (by kernel_rfl) (by kernel_rfl) (by kernel_rfl) noPanic_put rfl (.bool false) (fun _ _ => by go_simp) hS ?_
              simp only [Act.put, List.setIfInBounds_toArray, List.set_cons_zero, List.set_cons_succ]
              refine held_skip 9 (some 61) rfl rfl (by kernel_rfl) (by kernel_rfl) (by kernel_rfl) noPanic_put rfl hS ?_
              simp only [Act.put, List.setIfInBounds_toArray, List.set_cons_zero, List.set_cons_succ]
              refine held_skip 10 (some 62) rfl rfl (by kernel_rfl) (by kernel_rfl) (by kernel_rfl) noPanic_put rfl hS ?_
              simp only [Act.put, List.setIfInBounds_toArray, List.set_cons_zero, List.set_cons_succ]
              refine held_skip 11 (some 63) rfl rfl (by kernel_rfl) (by kernel_rfl) (by kernel_rfl) noPanic_put rfl hS ?_
              simp only [Act.put, List.setIfInBounds_toArray, List.set_cons_zero, List.set_cons_succ]
              refine held_valS 12 (some 64) rfl rfl (by kernel_rfl) (by kernel_rfl) (by kernel_rfl) noPanic_put rfl (.bool false) (fun _ _ => by go_simp) hS ?_
              simp only [Act.put, List.setIfInBounds_toArray, List.set_cons_zero, List.set_cons_succ]
              refine held_store_num 13 (by kernel_rfl) rfl rfl (.tmp 2) (.tmp 52) rfl rfl w.heap.size false k p m q rfl rfl false 0 zP 0 zP A9 zP_len zP_len hp hq ?_
              intro wf hNf hgf hsf
              refine ⟨⟨RowAt.grown hS.1 hgf (by simp; omega), trivial⟩, ?_⟩
              refine held_assign 14 (some 3) (by kernel_rfl) rfl rfl _ rfl rfl _ rfl ⟨RowAt.grown hS.1 hgf (by simp; omega), trivial⟩ ?_
              simp only [Act.put, List.setIfInBounds_toArray, List.set_cons_zero, List.set_cons_succ]
              refine wpAnyH_done (by kernel_rfl) ?_ _
              refine NoPanic.normal ?_
              go_wp2
              refine bodyPost_ret (v := .tuple #[.agg (numC false k p m q), .bool false]) (res_num_tmp Try.results16 _ _ w.heap.size _ _ _ _ _ _ rfl rfl hNf hp hq) rfl ⟨?_, ?_⟩
              · exact ⟨false, k, m, p, q, by rw [HN.out], hp, hq, fun h => by rw [HN.out] at h; cases h⟩
              · exact hB9.drew.grown hgf (by have := hB9.size; simp; omega) (by intro k hk; cases hk; omega)
            · have hm0' : 0 < (m : Int) := by omega
              have HU0 : Hid (dval (underN s.data.toList) ≠ 0) := fun e => hm0 (RB.out.zero_iff.2 e)
              go_wp2_with (refine store_bottom rfl _ _ rfl rfl b0 m q rfl rfl false k p i r M8 hp hr hq ?_; intro w9 M9 hg9 hs9)
              have A9 : NumAt w9 w.heap.size false 0 zP 0 zP := RowAt.grown A8 hg9 (by simp; omega)
              have hB9 : Below w.heap.size w w9 := hB8.grown hg9 (by have := hB8.size; omega) (by intro k hk; cases hk; omega)
              have hlt9 := M9.lt
              have hltA := A9.lt
              have hwb : w.heap.size < b0 := by omega
              clear A8 M8 hB8 hg9
              refine held_begin (fun w' => NumAt w' b0 false k p m q ∧ True) (by kernel_rfl) ?_
              have hS : NumAt w9.drew b0 false k p m q ∧ True := ⟨M9, trivial⟩
              refine held_valS 0 (some 52) rfl rfl (by kernel_rfl) (by kernel_rfl) (by kernel_rfl) noPanic_put rfl (.agg (numC false k p m q)) (fun _ h => run_row_num _ rfl b0 rfl false k p m q h.1 hp hq) hS ?_
              simp only [Act.put, List.setIfInBounds_toArray, List.set_cons_zero, List.set_cons_succ]
              refine held_valS 1 (some 53) rfl rfl (by kernel_rfl) (by kernel_rfl) (by kernel_rfl) noPanic_put rfl (.bool true) (fun _ _ => by go_simp) hS ?_
              simp only [Act.put, List.setIfInBounds_toArray, List.set_cons_zero, List.set_cons_succ]
              refine held_valS 2 (some 54) rfl rfl (by kernel_rfl) (by kernel_rfl) (by kernel_rfl) noPanic_put rfl (.bool true) (fun _ _ => by go_simp) hS ?_
              simp only [Act.put, List.setIfInBounds_toArray, List.set_cons_zero, List.set_cons_succ]
              refine held_valS 3 (some 55) rfl rfl (by kernel_rfl) (by kernel_rfl) (by kernel_rfl) noPanic_put rfl (.pointer (some ⟨b0, 206, none⟩)) (fun _ _ => by go_simp) hS ?_
              simp only [Act.put, List.setIfInBounds_toArray, List.set_cons_zero, List.set_cons_succ]
              refine held_valS 4 (some 56) rfl rfl (by kernel_rfl) (by kernel_rfl) (by kernel_rfl) noPanic_put rfl (.pointer (some ⟨b0, 206, none⟩)) (fun _ _ => by go_simp) hS ?_
              simp only [Act.put, List.setIfInBounds_toArray, List.set_cons_zero, List.set_cons_succ]
              refine held_valS 5 (some 57) rfl rfl (by kernel_rfl) (by kernel_rfl) (by kernel_rfl) noPanic_put rfl (.int .i64 m) (fun _ h => by have c := h.1.bused hp; go_simp) hS ?_
              simp only [Act.put, List.setIfInBounds_toArray, List.set_cons_zero, List.set_cons_succ]
              refine held_valS 6 (some 58) rfl rfl (by kernel_rfl) (by kernel_rfl) (by kernel_rfl) noPanic_put rfl (.bool true) (fun _ _ => by go_simp; omega) hS ?_
              simp only [Act.put, List.setIfInBounds_toArray, List.set_cons_zero, List.set_cons_succ]
              refine held_valS 7 (some 59) rfl rfl (by kernel_rfl) (by kernel_rfl) (by kernel_rfl) noPanic_put rfl (.bool true) (fun _ _ => by go_simp) hS ?_
              simp only [Act.put, List.setIfInBounds_toArray, List.set_cons_zero, List.set_cons_succ]
              refine held_valS 8 (some 60) rfl rfl (by kernel_rfl) (by kernel_rfl) (by kernel_rfl) noPanic_put rfl (.bool true) (fun _ _ => by go_simp) hS ?_
              simp only [Act.put, List.setIfInBounds_toArray, List.set_cons_zero, List.set_cons_succ]
              refine held_valS 9 (some 61) rfl rfl (by kernel_rfl) (by kernel_rfl) (by kernel_rfl) noPanic_put rfl (.agg (numC false k p m q)) (fun _ h => run_row_num _ rfl b0 rfl false k p m q h.1 hp hq) hS ?_
              simp only [Act.put, List.setIfInBounds_toArray, List.set_cons_zero, List.set_cons_succ]
              refine held_call 10 (some 62) (by kernel_rfl) rfl rfl rfl 17 #[.agg (numC false k p m q)] (by go_simp) _ (isWhole_any (n := 0) false _ hp RB.out) ?_
              rintro e w10 ⟨rfl, hW10⟩
              have hW10 : Below w9.heap.size w9 w10 := ⟨hW10.os, hW10.tape, hW10.output, hW10.size, hW10.block⟩
              have hs10 := hW10.size
              have A10 : NumAt w10 w.heap.size false 0 zP 0 zP := RowAt.below A9 hW10 hltA
              have hS : NumAt w10 b0 false k p m q ∧ True := ⟨RowAt.below M9 hW10 hlt9, trivial⟩
              have hB10 : Below w.heap.size w w10 := hB9.trans (hW10.mono hB9.size)
              refine ⟨_, rfl, hS, ?_⟩
              simp only [Act.put, List.setIfInBounds_toArray, List.set_cons_zero, List.set_cons_succ]
              obtain ⟨ow, how⟩ : ∃ ow, ow = decide (dval (underN s.data.toList) = 1) := ⟨_, rfl⟩
              rw [← how]
              have HOW := hide how
              clear how
              refine held_valS 11 (some 63) rfl rfl (by kernel_rfl) (by kernel_rfl) (by kernel_rfl) noPanic_put rfl (.bool (!ow)) (fun _ _ => by cases ow <;> go_simp) hS ?_
              simp only [Act.put, List.setIfInBounds_toArray, List.set_cons_zero, List.set_cons_succ]
              refine held_valS 12 (some 64) rfl rfl (by kernel_rfl) (by kernel_rfl) (by kernel_rfl) noPanic_put rfl (.bool (!ow)) (fun _ _ => by cases ow <;> go_simp) hS ?_
              simp only [Act.put, List.setIfInBounds_toArray, List.set_cons_zero, List.set_cons_succ]
              refine held_store_num 13 (by kernel_rfl) rfl rfl (.tmp 2) (.tmp 52) rfl rfl w.heap.size false k p m q rfl rfl false 0 zP 0 zP A10 zP_len zP_len hp hq ?_
              intro wf hNf hgf hsf
              refine ⟨⟨RowAt.grown hS.1 hgf (by simp; omega), trivial⟩, ?_⟩
              refine held_assign 14 (some 3) (by kernel_rfl) rfl rfl _ rfl rfl _ rfl ⟨RowAt.grown hS.1 hgf (by simp; omega), trivial⟩ ?_
              simp only [Act.put, List.setIfInBounds_toArray, List.set_cons_zero, List.set_cons_succ]
              refine wpAnyH_done (by kernel_rfl) ?_ _
              refine NoPanic.normal ?_
              go_wp2
              refine bodyPost_ret (v := .tuple #[.agg (numC false k p m q), .bool (!ow)]) (res_num_tmp Try.results16 _ _ w.heap.size _ _ _ _ _ _ rfl rfl hNf hp hq) rfl ⟨?_, ?_⟩
              · refine ⟨false, k, m, p, q, ?_, hp, hq, fun _ => ⟨HNG.out, RA.out, by unfold botN; rw [← HBK.out]; exact RB.out, hk, hm, hm0⟩⟩
                have : okT s.data.toList = !ow := by
                  unfold okT
                  rw [← HBK.out, HGU.out, HSG.out, decide_eq_true HU0.out, HOW.out]
                  by_cases h1 : dval (underN s.data.toList) = 1 <;> simp [h1]
                rw [this]
              · exact hB10.grown hgf (by have := hB10.size; omega) (by intro k hk; cases hk; omega)
      | true =>
        have hb1 : ((k : Int) == 0) = false := hbad'.resolve_left (by decide)
        clear hbad'
        go_wp2_with (refine store_nat rfl _ _ rfl rfl w3.heap.size k p rfl rfl 0 zP F zP_len hp ?_; intro w4 hN4 hg4 hs4; have c0 := hN4.c0)
        have hs4' : w4.heap.size = w3.heap.size + 1 := by rw [hs4]; simp
        have A4 : NumAt w4 w.heap.size false 0 zP 0 zP := (RowAt.old A3 (.cells (natC 0 zP) 30)).grown hg4 (by first | (simp; done) | (simp; omega))
        have hB4 : Below w.heap.size w w4 := (hB3.alloc (by omega) _).grown hg4 (by first | (simp; done) | (simp; omega)) (by intro k hk; cases hk; omega)
        clear A3 hB3 F hg4 hs4 c0
        refine region_make "l2_num.go:164" true k p hp w3.heap.size w.heap.size rfl rfl (by simp) hz2 hN4 A4 ?_
        intro b0 i r w7 hN7 N7 A7 hR hb0 hlt7 hW7
        have hr := hR.len
        have hB7 : Below w.heap.size w w7 := hB4.trans (hW7.mono hB4.size)
        have hb3 : w3.heap.size < b0 := by omega
        have hsB4 := hB4.size
        clear hN4 A4 hB4 hW7
        simp only [Act.put, List.setIfInBounds_toArray, List.set_cons_zero, List.set_cons_succ]
        have hi := (hR.fits.2 (one_lt' 600 (by decide)))
        have hi0 : i ≠ 0 := fun e => by have := hR.zero_iff.1 e; omega
        have HR1 := hide hR
        clear hR
        cases bk with
        | false =>
          have HN : Hid (okT s.data.toList = true) := by unfold Hid okT; rw [HSG.out, ← HBK.out]; rfl
          have HRD : Hid (ReadT s.data.toList (.returned (.tuple #[.agg (numC true k p i r), .bool true]))) := ⟨true, k, i, p, r, by rw [HN.out], hp, hr, fun _ => ⟨HNG.out, RA.out, by unfold botN; rw [← HBK.out]; exact HR1.out, hk, hi, hi0⟩⟩
          go_wp2_with (first | (refine load_num rfl _ rfl b0 rfl true k p i r hN7 hp hr ?_) | (refine store_num rfl _ _ rfl rfl w.heap.size true k p i r rfl rfl false 0 zP 0 zP A7 zP_len zP_len hp hr ?_; intro w8 hN8 hg8 hs8))
          refine bodyPost_ret (v := .tuple #[.agg (numC true k p i r), .bool true]) (res_num_tmp Try.results16 _ _ w.heap.size _ _ _ _ _ _ rfl rfl hN8 hp hr) rfl ⟨HRD.out, ?_⟩
          exact hB7.grown hg8 (by have := hB7.size; omega) (by intro k hk; cases hk; omega)
        | true =>
          go_wp2_with fail
          refine (readNat_any u _ hus).mono ?_
          rintro e w8 ⟨m, q, ob, rfl, hRb, hW8⟩
          have hq := hRb.len
          have hs8 := hW8.size
          have A8 : NumAt w8 w.heap.size false 0 zP 0 zP := A7.below hW8 (by omega)
          have M8 : NumAt w8 b0 true k p i r := hN7.below hW8 hlt7
          have hB8 : Below w.heap.size w w8 := hB7.trans (hW8.mono hB7.size)
          clear A7 N7 hN7 hB7 hW8
          have hokb : ob = goodB (underN s.data.toList) := by rw [← HO.out.2]; exact hRb.ok
          cases hob : ob with
          | false =>
            subst hob
            have HN : Hid (okT s.data.toList = false) := by unfold Hid okT; rw [← HBK.out, ← hokb, HSG.out]; rfl
            clear hokb hRb
            go_wp2_with (refine store_bottom rfl _ _ rfl rfl b0 m q rfl rfl true k p i r M8 hp hr hq ?_; intro w9 M9 hg9 hs9)
            have A9 : NumAt w9 w.heap.size false 0 zP 0 zP := RowAt.grown A8 hg9 (by simp; omega)
            have hB9 : Below w.heap.size w w9 := hB8.grown hg9 (by have := hB8.size; omega) (by intro k hk; cases hk; omega)
            have hlt9 := M9.lt
            have hltA := A9.lt
            have hwb : w.heap.size < b0 := by omega
            clear A8 M8 hB8 hg9
            refine held_begin (fun w' => NumAt w' b0 true k p m q ∧ True) (by kernel_rfl) ?_
            have hS : NumAt w9.drew b0 true k p m q ∧ True := ⟨M9, trivial⟩
            refine held_valS 0 (some 52) rfl rfl (by kernel_rfl) (by kernel_rfl) (by kernel_rfl) noPanic_put rfl (.agg (numC true k p m q)) (fun _ h => run_row_num _ rfl b0 rfl true k p m q h.1 hp hq) hS ?_
            simp only [Act.put, List.setIfInBounds_toArray, List.set_cons_zero, List.set_cons_succ]
            refine held_valS 1 (some 53) rfl rfl (by kernel_rfl) (by kernel_rfl) (by kernel_rfl) noPanic_put rfl (.bool false) (fun _ _ => by go_simp) hS ?_
            simp only [Act.put, List.setIfInBounds_toArray, List.set_cons_zero, List.set_cons_succ]
            refine held_valS 2 (some 54) rfl rfl (by kernel_rfl) (by kernel_rfl) (by kernel_rfl) noPanic_put rfl (.bool false) (fun _ _ => by go_simp) hS ?_
            simp only [Act.put, List.setIfInBounds_toArray, List.set_cons_zero, List.set_cons_succ]
            refine held_skip 3 (some 55) rfl rfl (by kernel_rfl) (by kernel_rfl) (by kernel_rfl) noPanic_put rfl hS ?_
            simp only [Act.put, List.setIfInBounds_toArray, List.set_cons_zero, List.set_cons_succ]
            refine held_skip 4 (some 56) rfl rfl (by kernel_rfl) (by kernel_rfl) (by kernel_rfl) noPanic_put rfl hS ?_
            simp only [Act.put, List.setIfInBounds_toArray, List.set_cons_zero, List.set_cons_succ]
            refine held_skip 5 (some 57) rfl rfl (by kernel_rfl) (by kernel_rfl) (by kernel_rfl) noPanic_put rfl hS ?_
            simp only [Act.put, List.setIfInBounds_toArray, List.set_cons_zero, List.set_cons_succ]
            refine held_skip 6 (some 58) rfl rfl (by kernel_rfl) (by kernel_rfl) (by kernel_rfl) noPanic_put rfl hS ?_
            simp only [Act.put, List.setIfInBounds_toArray, List.set_cons_zero, List.set_cons_succ]
            refine held_valS 7 (some 59) rfl rfl (by kernel_rfl) (by kernel_rfl) (by kernel_rfl) noPanic_put rfl (.bool false) (fun _ _ => by go_simp) hS ?_
            simp only [Act.put, List.setIfInBounds_toArray, List.set_cons_zero, List.set_cons_succ]
            refine held_valS 8 (some 60) rfl rfl (by kernel_rfl) (by kernel_rfl) (by kernel_rfl) noPanic_put rfl (.bool false) (fun _ _ => by go_simp) hS ?_
            simp only [Act.put, List.setIfInBounds_toArray, List.set_cons_zero, List.set_cons_succ]
            refine held_skip 9 (some 61) rfl rfl (by kernel_rfl) (by kernel_rfl) (by kernel_rfl) noPanic_put rfl hS ?_
            simp only [Act.put, List.setIfInBounds_toArray, List.set_cons_zero, List.set_cons_succ]
            refine held_skip 10 (some 62) rfl rfl (by kernel_rfl) (by kernel_rfl) (by kernel_rfl) noPanic_put rfl hS ?_
            simp only [Act.put, List.setIfInBounds_toArray, List.set_cons_zero, List.set_cons_succ]
            refine held_skip 11 (some 63) rfl rfl (by kernel_rfl) (by kernel_rfl) (by kernel_rfl) noPanic_put rfl hS ?_
            simp only [Act.put, List.setIfInBounds_toArray, List.set_cons_zero, List.set_cons_succ]
            refine held_valS 12 (some 64) rfl rfl (by kernel_rfl) (by kernel_rfl) (by kernel_rfl) noPanic_put rfl (.bool false) (fun _ _ => by go_simp) hS ?_
            simp only [Act.put, List.setIfInBounds_toArray, List.set_cons_zero, List.set_cons_succ]
            refine held_store_num 13 (by kernel_rfl) rfl rfl (.tmp 2) (.tmp 52) rfl rfl w.heap.size true k p m q rfl rfl false 0 zP 0 zP A9 zP_len zP_len hp hq ?_
            intro wf hNf hgf hsf
            refine ⟨⟨RowAt.grown hS.1 hgf (by simp; omega), trivial⟩, ?_⟩
            refine held_assign 14 (some 3) (by kernel_rfl) rfl rfl _ rfl rfl _ rfl ⟨RowAt.grown hS.1 hgf (by simp; omega), trivial⟩ ?_
            simp only [Act.put, List.setIfInBounds_toArray, List.set_cons_zero, List.set_cons_succ]
            refine wpAnyH_done (by kernel_rfl) ?_ _
            refine NoPanic.normal ?_
            go_wp2
            refine bodyPost_ret (v := .tuple #[.agg (numC true k p m q), .bool false]) (res_num_tmp Try.results16 _ _ w.heap.size _ _ _ _ _ _ rfl rfl hNf hp hq) rfl ⟨?_, ?_⟩
            · exact ⟨true, k, m, p, q, by rw [HN.out], hp, hq, fun h => by rw [HN.out] at h; cases h⟩
            · exact hB9.drew.grown hgf (by have := hB9.size; simp; omega) (by intro k hk; cases hk; omega)
          | true =>
            subst hob
            have hgu : goodB u.data.toList = true := by rw [HO.out.2]; exact hokb.symm
            have rb : Rep (dval (underN s.data.toList)) m q := by rw [← HO.out.2]; exact hRb.rep hgu
            have hm : m ≤ 100 := by
              have h1 : dval (underN s.data.toList) < 10 ^ 600 := by rw [← HO.out.2]; exact good_lt' hgu
              exact rb.fits.2 h1
            have RB := hide rb
            have HGU : Hid (goodB (underN s.data.toList) = true) := hokb.symm
            clear hokb hRb hgu rb
            by_cases hm0 : m = 0
            · have HN : Hid (okT s.data.toList = false) := by
                unfold Hid okT; rw [← HBK.out, HGU.out, HSG.out, RB.out.zero_iff.1 hm0]; rfl
              have hm0' : ¬ 0 < (m : Int) := by omega
              clear hm0
              go_wp2_with (refine store_bottom rfl _ _ rfl rfl b0 m q rfl rfl true k p i r M8 hp hr hq ?_; intro w9 M9 hg9 hs9)
              have A9 : NumAt w9 w.heap.size false 0 zP 0 zP := RowAt.grown A8 hg9 (by simp; omega)
              have hB9 : Below w.heap.size w w9 := hB8.grown hg9 (by have := hB8.size; omega) (by intro k hk; cases hk; omega)
              have hlt9 := M9.lt
              have hltA := A9.lt
              have hwb : w.heap.size < b0 := by omega
              clear A8 M8 hB8 hg9
              refine held_begin (fun w' => NumAt w' b0 true k p m q ∧ True) (by kernel_rfl) ?_
              have hS : NumAt w9.drew b0 true k p m q ∧ True := ⟨M9, trivial⟩
              refine held_valS 0 (some 52) rfl rfl (by kernel_rfl) (by kernel_rfl) (by kernel_rfl) noPanic_put rfl (.agg (numC true k p m q)) (fun _ h => run_row_num _ rfl b0 rfl true k p m q h.1 hp hq) hS ?_
              simp only [Act.put, List.setIfInBounds_toArray, List.set_cons_zero, List.set_cons_succ]
              refine held_valS 1 (some 53) rfl rfl (by kernel_rfl) (by kernel_rfl) (by kernel_rfl) noPanic_put rfl (.bool true) (fun _ _ => by go_simp) hS ?_
              simp only [Act.put, List.setIfInBounds_toArray, List.set_cons_zero, List.set_cons_succ]
              refine held_valS 2 (some 54) rfl rfl (by kernel_rfl) (by kernel_rfl) (by kernel_rfl) noPanic_put rfl (.bool true) (fun _ _ => by go_simp) hS ?_
              simp only [Act.put, List.setIfInBounds_toArray, List.set_cons_zero, List.set_cons_succ]
              refine held_valS 3 (some 55) rfl rfl (by kernel_rfl) (by kernel_rfl) (by kernel_rfl) noPanic_put rfl (.pointer (some ⟨b0, 206, none⟩)) (fun _ _ => by go_simp) hS ?_
              simp only [Act.put, List.setIfInBounds_toArray, List.set_cons_zero, List.set_cons_succ]
              refine held_valS 4 (some 56) rfl rfl (by kernel_rfl) (by kernel_rfl) (by kernel_rfl) noPanic_put rfl (.pointer (some ⟨b0, 206, none⟩)) (fun _ _ => by go_simp) hS ?_
              simp only [Act.put, List.setIfInBounds_toArray, List.set_cons_zero, List.set_cons_succ]
              refine held_valS 5 (some 57) rfl rfl (by kernel_rfl) (by kernel_rfl) (by kernel_rfl) noPanic_put rfl (.int .i64 m) (fun _ h => by have c := h.1.bused hp; go_simp) hS ?_
              simp only [Act.put, List.setIfInBounds_toArray, List.set_cons_zero, List.set_cons_succ]
              refine held_valS 6 (some 58) rfl rfl (by kernel_rfl) (by kernel_rfl) (by kernel_rfl) noPanic_put rfl (.bool false) (fun _ _ => by go_simp; omega) hS ?_
              simp only [Act.put, List.setIfInBounds_toArray, List.set_cons_zero, List.set_cons_succ]
              refine held_valS 7 (some 59) rfl rfl (by kernel_rfl) (by kernel_rfl) (by kernel_rfl) noPanic_put rfl (.bool false) (fun _ _ => by go_simp) hS ?_
              simp only [Act.put, List.setIfInBounds_toArray, List.set_cons_zero, List.set_cons_succ]
              refine held_valS 8 (some 60) rfl rfl (by kernel_rfl) (by kernel_rfl) (by kernel_rfl) noPanic_put rfl (.bool false) (fun _ _ => by go_simp) hS ?_
              simp only [Act.put, List.setIfInBounds_toArray, List.set_cons_zero, List.set_cons_succ]
              refine held_skip 9 (some 61) rfl rfl (by kernel_rfl) (by kernel_rfl) (by kernel_rfl) noPanic_put rfl hS ?_
              simp only [Act.put, List.setIfInBounds_toArray, List.set_cons_zero, List.set_cons_succ]
              refine held_skip 10 (some 62) rfl rfl (by kernel_rfl) (by kernel_rfl) (by kernel_rfl) noPanic_put rfl hS ?_
              simp only [Act.put, List.setIfInBounds_toArray, List.set_cons_zero, List.set_cons_succ]
              refine held_skip 11 (some 63) rfl rfl (by kernel_rfl) (by kernel_rfl) (by kernel_rfl) noPanic_put rfl hS ?_
              simp only [Act.put, List.setIfInBounds_toArray, List.set_cons_zero, List.set_cons_succ]
              refine held_valS 12 (some 64) rfl rfl (by kernel_rfl) (by kernel_rfl) (by kernel_rfl) noPanic_put rfl (.bool false) (fun _ _ => by go_simp) hS ?_
              simp only [Act.put, List.setIfInBounds_toArray, List.set_cons_zero, List.set_cons_succ]
              refine held_store_num 13 (by kernel_rfl) rfl rfl (.tmp 2) (.tmp 52) rfl rfl w.heap.size true k p m q rfl rfl false 0 zP 0 zP A9 zP_len zP_len hp hq ?_
              intro wf hNf hgf hsf
              refine ⟨⟨RowAt.grown hS.1 hgf (by simp; omega), trivial⟩, ?_⟩
              refine held_assign 14 (some 3) (by kernel_rfl) rfl rfl _ rfl rfl _ rfl ⟨RowAt.grown hS.1 hgf (by simp; omega), trivial⟩ ?_
              simp only [Act.put, List.setIfInBounds_toArray, List.set_cons_zero, List.set_cons_succ]
              refine wpAnyH_done (by kernel_rfl) ?_ _
              refine NoPanic.normal ?_
              go_wp2
              refine bodyPost_ret (v := .tuple #[.agg (numC true k p m q), .bool false]) (res_num_tmp Try.results16 _ _ w.heap.size _ _ _ _ _ _ rfl rfl hNf hp hq) rfl ⟨?_, ?_⟩
              · exact ⟨true, k, m, p, q, by rw [HN.out], hp, hq, fun h => by rw [HN.out] at h; cases h⟩
              · exact hB9.drew.grown hgf (by have := hB9.size; simp; omega) (by intro k hk; cases hk; omega)
            · have hm0' : 0 < (m : Int) := by omega
              have HU0 : Hid (dval (underN s.data.toList) ≠ 0) := fun e => hm0 (RB.out.zero_iff.2 e)
              go_wp2_with (refine store_bottom rfl _ _ rfl rfl b0 m q rfl rfl true k p i r M8 hp hr hq ?_; intro w9 M9 hg9 hs9)
              have A9 : NumAt w9 w.heap.size false 0 zP 0 zP := RowAt.grown A8 hg9 (by simp; omega)
              have hB9 : Below w.heap.size w w9 := hB8.grown hg9 (by have := hB8.size; omega) (by intro k hk; cases hk; omega)
              have hlt9 := M9.lt
              have hltA := A9.lt
              have hwb : w.heap.size < b0 := by omega
              clear A8 M8 hB8 hg9
              refine held_begin (fun w' => NumAt w' b0 true k p m q ∧ True) (by kernel_rfl) ?_
              have hS : NumAt w9.drew b0 true k p m q ∧ True := ⟨M9, trivial⟩
              refine held_valS 0 (some 52) rfl rfl (by kernel_rfl) (by kernel_rfl) (by kernel_rfl) noPanic_put rfl (.agg (numC true k p m q)) (fun _ h => run_row_num _ rfl b0 rfl true k p m q h.1 hp hq) hS ?_
              simp only [Act.put, List.setIfInBounds_toArray, List.set_cons_zero, List.set_cons_succ]
              refine held_valS 1 (some 53) rfl rfl (by kernel_rfl) (by kernel_rfl) (by kernel_rfl) noPanic_put rfl (.bool true) (fun _ _ => by go_simp) hS ?_
              simp only [Act.put, List.setIfInBounds_toArray, List.set_cons_zero, List.set_cons_succ]
              refine held_valS 2 (some 54) rfl rfl (by kernel_rfl) (by kernel_rfl) (by kernel_rfl) noPanic_put rfl (.bool true) (fun _ _ => by go_simp) hS ?_
              simp only [Act.put, List.setIfInBounds_toArray, List.set_cons_zero, List.set_cons_succ]
              refine held_valS 3 (some 55) rfl rfl (by kernel_rfl) (by kernel_rfl) (by kernel_rfl) noPanic_put rfl (.pointer (some ⟨b0, 206, none⟩)) (fun _ _ => by go_simp) hS ?_
              simp only [Act.put, List.setIfInBounds_toArray, List.set_cons_zero, List.set_cons_succ]
              refine held_valS 4 (some 56) rfl rfl (by kernel_rfl) (by kernel_rfl) (by kernel_rfl) noPanic_put rfl (.pointer (some ⟨b0, 206, none⟩)) (fun _ _ => by go_simp) hS ?_
              simp only [Act.put, List.setIfInBounds_toArray, List.set_cons_zero, List.set_cons_succ]
              refine held_valS 5 (some 57) rfl rfl (by kernel_rfl) (by kernel_rfl) (by kernel_rfl) noPanic_put rfl (.int .i64 m) (fun _ h => by have c := h.1.bused hp; go_simp) hS ?_
              simp only [Act.put, List.setIfInBounds_toArray, List.set_cons_zero, List.set_cons_succ]
              refine held_valS 6 (some 58) rfl rfl (by kernel_rfl) (by kernel_rfl) (by kernel_rfl) noPanic_put rfl (.bool true) (fun _ _ => by go_simp; omega) hS ?_
              simp only [Act.put, List.setIfInBounds_toArray, List.set_cons_zero, List.set_cons_succ]
              refine held_valS 7 (some 59) rfl rfl (by kernel_rfl) (by kernel_rfl) (by kernel_rfl) noPanic_put rfl (.bool true) (fun _ _ => by go_simp) hS ?_
              simp only [Act.put, List.setIfInBounds_toArray, List.set_cons_zero, List.set_cons_succ]
              refine held_valS 8 (some 60) rfl rfl (by kernel_rfl) (by kernel_rfl) (by kernel_rfl) noPanic_put rfl (.bool true) (fun _ _ => by go_simp) hS ?_
              simp only [Act.put, List.setIfInBounds_toArray, List.set_cons_zero, List.set_cons_succ]
              refine held_valS 9 (some 61) rfl rfl (by kernel_rfl) (by kernel_rfl) (by kernel_rfl) noPanic_put rfl (.agg (numC true k p m q)) (fun _ h => run_row_num _ rfl b0 rfl true k p m q h.1 hp hq) hS ?_
              simp only [Act.put, List.setIfInBounds_toArray, List.set_cons_zero, List.set_cons_succ]
              refine held_call 10 (some 62) (by kernel_rfl) rfl rfl rfl 17 #[.agg (numC true k p m q)] (by go_simp) _ (isWhole_any (n := 0) true _ hp RB.out) ?_
              rintro e w10 ⟨rfl, hW10⟩
              have hW10 : Below w9.heap.size w9 w10 := ⟨hW10.os, hW10.tape, hW10.output, hW10.size, hW10.block⟩
              have hs10 := hW10.size
              have A10 : NumAt w10 w.heap.size false 0 zP 0 zP := RowAt.below A9 hW10 hltA
              have hS : NumAt w10 b0 true k p m q ∧ True := ⟨RowAt.below M9 hW10 hlt9, trivial⟩
              have hB10 : Below w.heap.size w w10 := hB9.trans (hW10.mono hB9.size)
              refine ⟨_, rfl, hS, ?_⟩
              simp only [Act.put, List.setIfInBounds_toArray, List.set_cons_zero, List.set_cons_succ]
              obtain ⟨ow, how⟩ : ∃ ow, ow = decide (dval (underN s.data.toList) = 1) := ⟨_, rfl⟩
              rw [← how]
              have HOW := hide how
              clear how
              refine held_valS 11 (some 63) rfl rfl (by kernel_rfl) (by kernel_rfl) (by kernel_rfl) noPanic_put rfl (.bool (!ow)) (fun _ _ => by cases ow <;> go_simp) hS ?_
              simp only [Act.put, List.setIfInBounds_toArray, List.set_cons_zero, List.set_cons_succ]
              refine held_valS 12 (some 64) rfl rfl (by kernel_rfl) (by kernel_rfl) (by kernel_rfl) noPanic_put rfl (.bool (!ow)) (fun _ _ => by cases ow <;> go_simp) hS ?_
              simp only [Act.put, List.setIfInBounds_toArray, List.set_cons_zero, List.set_cons_succ]
              refine held_store_num 13 (by kernel_rfl) rfl rfl (.tmp 2) (.tmp 52) rfl rfl w.heap.size true k p m q rfl rfl false 0 zP 0 zP A10 zP_len zP_len hp hq ?_
              intro wf hNf hgf hsf
              refine ⟨⟨RowAt.grown hS.1 hgf (by simp; omega), trivial⟩, ?_⟩
              refine held_assign 14 (some 3) (by kernel_rfl) rfl rfl _ rfl rfl _ rfl ⟨RowAt.grown hS.1 hgf (by simp; omega), trivial⟩ ?_
              simp only [Act.put, List.setIfInBounds_toArray, List.set_cons_zero, List.set_cons_succ]
              refine wpAnyH_done (by kernel_rfl) ?_ _
              refine NoPanic.normal ?_
              go_wp2
              refine bodyPost_ret (v := .tuple #[.agg (numC true k p m q), .bool (!ow)]) (res_num_tmp Try.results16 _ _ w.heap.size _ _ _ _ _ _ rfl rfl hNf hp hq) rfl ⟨?_, ?_⟩
              · refine ⟨true, k, m, p, q, ?_, hp, hq, fun _ => ⟨HNG.out, RA.out, by unfold botN; rw [← HBK.out]; exact RB.out, hk, hm, hm0⟩⟩
                have : okT s.data.toList = !ow := by
                  unfold okT
                  rw [← HBK.out, HGU.out, HSG.out, decide_eq_true HU0.out, HOW.out]
                  by_cases h1 : dval (underN s.data.toList) = 1 <;> simp [h1]
                rw [this]
              · exact hB10.grown hgf (by have := hB10.size; omega) (by intro k hk; cases hk; omega)
end Go.Proofs.Ytcdidibphaemoaa
