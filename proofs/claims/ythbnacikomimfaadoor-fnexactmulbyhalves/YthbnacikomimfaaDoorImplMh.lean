/-
  What impl.MulByHalves answers.
-/
import Derived.Test.YthbnacikomimfaaDoorImplHal
import Derived.Test.YthbnacikomimfaaDoorSpecMh
namespace Go.Proofs.YthbnacikomimfaaDoor
open Go.RowKit
set_option linter.unusedVariables false

theorem zero_fnat2 : ∀ w, (zeroValue 43).run Tryd.prog w = .ok .nilFunc w := (zero_of_info (n := 1) (by kernel_rfl)).1

set_option maxHeartbeats 8000000 in
set_option maxRecDepth 100000 in
theorem implMh_any (a b : ByteArray) (n : Int) (w : World) (hsa : a.size ≤ maxLen) (hsb : b.size ≤ maxLen) (hT : Tab w.heap.size w) :
    Calls Tryd.prog 7 #[.string a, .string b, .int .i64 n] w fun e w' => MhAns a b n e ∧ Below w.heap.size w w' := by
  have hz := zero_nat.1
  have hzf := zero_fnat2
  have hmf : ∀ (fn : Fn) (first cap : Array Value) (w : World), (Instr.makeFunc fn first cap).run Tryd.prog w = .ok (.func fn first cap) w := fun _ _ _ _ => rfl
  have HT := hideT' hT
  clear hT
  have L0 : RowAt (w.alloc (.cells #[.int .i64 n] 3)) w.heap.size 3 #[.int .i64 n] := RowAt.new _ _ _
  have hB0 : Below w.heap.size w (w.alloc (.cells #[.int .i64 n] 3)) := (Below.refl _ _).alloc (Nat.le_refl _) _
  have hno : ¬ MhOk a b n → Hid (MhAns a b n (.returned (.tuple #[.string ⟨#[]⟩, .int .i64 0, .bool false]))) := fun h => .inr ⟨h, rfl⟩
  have HNO := hideT' hno
  clear hno
  go_enter Tryd.func7, Tryd.ntmps7
  go_wp2_with fail
  refine (readNats_any a b _ hsa hsb).mono ?_
  rintro e w1 ⟨k, m, p, q, oa, ob, rfl, hRa, hRb, hW1⟩
  have hp := hRa.len
  have hq := hRb.len
  have hB1 : Below w.heap.size w w1 := hB0.trans (hW1.mono (by simp))
  have L1 := RowAt.below L0 hW1 (by simp)
  have N9 := (NatAt.new w1 0 zP).old (.cells (natC 0 zP) 40)
  have N10 := NatAt.new (w1.alloc (.cells (natC 0 zP) 40)) 0 zP
  simp only [World.size_alloc] at N10
  have HRd := hideT' (And.intro hRa hRb)
  have hz1 := hB1.size
  have hl1 := L1.lt
  have hoa : oa = goodB a.data.toList := hRa.ok
  have hob : ob = goodB b.data.toList := hRb.ok
  clear L0 hB0 hW1 hRa hRb
  have hab : (oa && ob) = (goodB a.data.toList && goodB b.data.toList) := by rw [hoa, hob]
  cases hg : (goodB a.data.toList && goodB b.data.toList) with
  | false =>
    rw [hg] at hab
    have HF := HNO.out (fun h => by rw [h.1, h.2.1] at hg; cases hg)
    clear HNO HRd hoa hob hg
    go_wp2_with (first | (refine store_nat rfl (.tmp 9) _ rfl rfl w1.heap.size k p rfl rfl 0 zP N9 zP_len hp ?_; intro w2 hN2 hg2 hs2; have N102 := N10.grown hg2 (by simp)) | (refine store_nat rfl (.tmp 10) _ rfl rfl (w1.heap.size + 1) m q rfl rfl 0 zP N102 zP_len hq ?_; intro w3 hN3 hg3 hs3; have L3 := ((RowAt.old (RowAt.old L1 (.cells (natC 0 zP) 40)) (.cells (natC 0 zP) 40)).grown hg2 (by simp; omega)).grown hg3 (by simp; omega); have c5 := cell0 L3))
    have hB3 : Below w.heap.size w w3 := (((hB1.alloc hz1 _).alloc (by simp; omega) _).grown hg2 (by simp; omega) (by intro k hk; cases hk; omega)).grown hg3 (by rw [hs2]; simp; omega) (by intro k hk; cases hk; omega)
    go_ret3
    exact ⟨HF.out, hB3⟩
  | true =>
    rw [hg] at hab
    have hg' := Bool.and_eq_true_iff.1 hg
    obtain ⟨ta, sa⟩ := good_tx hg'.1
    obtain ⟨tb, sb⟩ := good_tx hg'.2
    have sa' : (a.size : Int) ≤ 600 := by omega
    have sb' : (b.size : Int) ≤ 600 := by omega
    have HTx := hideT' (And.intro ta (And.intro tb hg'))
    clear hg hg' ta tb
    by_cases h1 : n < 1
    · skip
      have HF := HNO.out (fun h => by have := h.2.2.1; omega)
      clear HNO HRd hoa hob
      go_wp2_with (first | (refine store_nat rfl (.tmp 9) _ rfl rfl w1.heap.size k p rfl rfl 0 zP N9 zP_len hp ?_; intro w2 hN2 hg2 hs2; have N102 := N10.grown hg2 (by simp)) | (refine store_nat rfl (.tmp 10) _ rfl rfl (w1.heap.size + 1) m q rfl rfl 0 zP N102 zP_len hq ?_; intro w3 hN3 hg3 hs3; have L3 := ((RowAt.old (RowAt.old L1 (.cells (natC 0 zP) 40)) (.cells (natC 0 zP) 40)).grown hg2 (by simp; omega)).grown hg3 (by simp; omega); have c5 := cell0 L3))
      have hB3 : Below w.heap.size w w3 := (((hB1.alloc hz1 _).alloc (by simp; omega) _).grown hg2 (by simp; omega) (by intro k hk; cases hk; omega)).grown hg3 (by rw [hs2]; simp; omega) (by intro k hk; cases hk; omega)
      go_ret3
      exact ⟨HF.out, hB3⟩
    by_cases h2 : (100 : Int) < n
    · skip
      have HF := HNO.out (fun h => by have := h.2.2.2.1; omega)
      clear HNO HRd hoa hob
      go_wp2_with (first | (refine store_nat rfl (.tmp 9) _ rfl rfl w1.heap.size k p rfl rfl 0 zP N9 zP_len hp ?_; intro w2 hN2 hg2 hs2; have N102 := N10.grown hg2 (by simp)) | (refine store_nat rfl (.tmp 10) _ rfl rfl (w1.heap.size + 1) m q rfl rfl 0 zP N102 zP_len hq ?_; intro w3 hN3 hg3 hs3; have L3 := ((RowAt.old (RowAt.old L1 (.cells (natC 0 zP) 40)) (.cells (natC 0 zP) 40)).grown hg2 (by simp; omega)).grown hg3 (by simp; omega); have c5 := cell0 L3))
      have hB3 : Below w.heap.size w w3 := (((hB1.alloc hz1 _).alloc (by simp; omega) _).grown hg2 (by simp; omega) (by intro k hk; cases hk; omega)).grown hg3 (by rw [hs2]; simp; omega) (by intro k hk; cases hk; omega)
      go_ret3
      exact ⟨HF.out, hB3⟩
    by_cases h3 : (600 : Int) < (a.size : Int) + (b.size : Int) - 1
    · skip
      have HF := HNO.out (fun h => by
        have h4 := h.2.2.2.2
        have la := HTx.out.1.len
        have lb := HTx.out.2.1.len
        have na : dval a.data.toList ≠ 0 := fun h0 => by have := la.2.2.2 h0; omega
        have nb : dval b.data.toList ≠ 0 := fun h0 => by have := lb.2.2.2 h0; omega
        have g1 := Nat.mul_le_mul (la.2.2.1 na) (lb.2.2.1 nb)
        rw [← Nat.pow_add] at g1
        have g2 := (Nat.pow_lt_pow_iff_right (by decide : 1 < 10)).1 (Nat.lt_of_le_of_lt g1 h4)
        omega)
      clear HNO HRd hoa hob
      go_wp2_with (first | (refine store_nat rfl (.tmp 9) _ rfl rfl w1.heap.size k p rfl rfl 0 zP N9 zP_len hp ?_; intro w2 hN2 hg2 hs2; have N102 := N10.grown hg2 (by simp)) | (refine store_nat rfl (.tmp 10) _ rfl rfl (w1.heap.size + 1) m q rfl rfl 0 zP N102 zP_len hq ?_; intro w3 hN3 hg3 hs3; have L3 := ((RowAt.old (RowAt.old L1 (.cells (natC 0 zP) 40)) (.cells (natC 0 zP) 40)).grown hg2 (by simp; omega)).grown hg3 (by simp; omega); have c5 := cell0 L3))
      have hB3 : Below w.heap.size w w3 := (((hB1.alloc hz1 _).alloc (by simp; omega) _).grown hg2 (by simp; omega) (by intro k hk; cases hk; omega)).grown hg3 (by rw [hs2]; simp; omega) (by intro k hk; cases hk; omega)
      go_ret3
      exact ⟨HF.out, hB3⟩
    obtain ⟨l, rfl⟩ : ∃ l : Nat, n = (l : Int) := ⟨n.toNat, by omega⟩
    have hl1 : 1 ≤ l := by omega
    have hl2 : l ≤ 100 := by omega
    have hRa := HRd.out.1.rep HTx.out.2.2.1
    have hRb := HRd.out.2.rep HTx.out.2.2.2
    have hbd : Bd (dval a.data.toList) (dval b.data.toList) := by
      have g1 := HTx.out.1.lt' (k := a.size) (Nat.le_refl _)
      have g2 := HTx.out.2.1.lt' (k := b.size) (Nat.le_refl _)
      have h4 : a.size + b.size ≤ 601 := by omega
      have g3 := prod_ltH (k := 601) g1 g2 h4
      have g4 := HTx.out.1.lt' (k := 600) sa
      have g5 := HTx.out.2.1.lt' (k := 600) sb
      exact ⟨g4, g5, g3⟩
    have HR := hideT' (And.intro hRa (And.intro hRb hbd))
    clear hRa hRb hbd HRd hoa hob
    have h1' : ¬ (l : Int) < 1 := h1
    go_wp2_with (first | (refine store_nat rfl (.tmp 9) _ rfl rfl w1.heap.size k p rfl rfl 0 zP N9 zP_len hp ?_; intro w2 hN2 hg2 hs2; have N102 := N10.grown hg2 (by simp)) | (refine store_nat rfl (.tmp 10) _ rfl rfl (w1.heap.size + 1) m q rfl rfl 0 zP N102 zP_len hq ?_; intro w3 hN3 hg3 hs3; have L3 := ((RowAt.old (RowAt.old L1 (.cells (natC 0 zP) 40)) (.cells (natC 0 zP) 40)).grown hg2 (by simp; omega)).grown hg3 (by simp; omega); have c5 := cell0 L3; have HS2 := hideT' hs2; have HS3 := hideT' hs3; clear hs2 hs3) | (refine store_at rfl 43 (.tmp 13) _ rfl rfl (w3.heap.size + 1) 0 (CL w.heap.size w3.heap.size (w3.heap.size + 1)) rfl rfl (by kernel_rfl) rfl 43 #[.nilFunc] (by have h := RowAt.new (w3.alloc (.cells #[.int .i64 0] 3)) 43 #[.nilFunc]; simpa only [World.size_alloc] using h) (by decide) ?_; intro w5 hM5 hg5 hs5; have HS5 := hideT' hs5; clear hs5; have hl3 := L3.lt; have c13 := cell0 (v := .func (.func 21) #[] #[.pointer (some ⟨w.heap.size, 0, none⟩), .pointer (some ⟨w3.heap.size, 0, none⟩), .pointer (some ⟨w3.heap.size + 1, 0, none⟩)]) hM5; have N95 := ((((hN2.grown hg3 (by simp)).old (.cells #[.int .i64 0] 3)).old (.cells #[.nilFunc] 43)).grown hg5 (by simp; have := hN3.lt; omega)); have N105 := (((hN3.old (.cells #[.int .i64 0] 3)).old (.cells #[.nilFunc] 43)).grown hg5 (by simp; have := hN3.lt; omega))) | (refine load_nat rfl (.tmp 9) rfl w1.heap.size rfl k p N95 hp ?_) | (refine load_nat rfl (.tmp 10) rfl (w1.heap.size + 1) rfl m q N105 hq ?_))
    have hs2 := HS2.out
    have hs3 := HS3.out
    have D5 : RowAt w5 w3.heap.size 3 #[.int .i64 0] := ((RowAt.new w3 3 #[.int .i64 0]).old (.cells #[.nilFunc] 43)).grown hg5 (by simp)
    have L5 := ((L3.old (.cells #[.int .i64 0] 3)).old (.cells #[.nilFunc] 43)).grown hg5 (by simp; omega)
    have hB3 : Below w.heap.size w w3 := (((hB1.alloc hz1 _).alloc (by simp; omega) _).grown hg2 (by simp; omega) (by intro k hk; cases hk; omega)).grown hg3 (by rw [hs2]; simp; omega) (by intro k hk; cases hk; omega)
    have hz3 := hB3.size
    have hB5 : Below w.heap.size w w5 := (((hB3.alloc hz3 _).alloc (by simp; omega) _)).grown hg5 (by simp; omega) (by intro k hk; cases hk; omega)
    refine (mult_all w.heap.size w.heap.size w3.heap.size (w3.heap.size + 1) l hl1 hl2 _ _ _ k m p q 0 w5 rfl HR.out.1 HR.out.2.1 HR.out.2.2 ⟨L5, D5, hM5, by omega, by omega, by omega, HT.out.on hB5⟩).mono ?_
    rintro e w6 ⟨i, r, c, rfl, hQ, hC, hD6, hK6⟩
    have hB6 : Below w.heap.size w w6 := hB5.trans (hK6.to (by omega) D5.lt)
    have HQ := hideT' (And.intro hQ (And.intro hC (And.intro hD6 hB6)))
    have hl6 := hD6.lt
    clear hQ hC hD6 hK6 D5 L5 hM5 hg5 c13 N95 N105 hB5 hB3 hN2 hg2 hs2 N102 hN3 hg3 hs3 L3 c5 HS2 HS3 HS5 L1 N9 N10 hB1
    go_wp2_with fail
    refine (tellNat_any w6 HQ.out.1 ((HT.out.on HQ.out.2.2.2).up HQ.out.2.2.2.size)).mono ?_
    rintro e w7 ⟨s, rfl, hs1, hs2, hW7⟩
    have hB7 : Below w.heap.size w w7 := HQ.out.2.2.2.trans (hW7.mono HQ.out.2.2.2.size)
    have D7 := HQ.out.2.2.1.below hW7 hl6
    by_cases hpr : dval a.data.toList * dval b.data.toList < 10 ^ 600
    · have HF : Hid (MhAns a b (l : Int) (.returned (.tuple #[.string s, .int .i64 (IntKind.i64.wrap (0 + (c : Int))), .bool true]))) := by
        refine .inl ⟨⟨HTx.out.2.2.1, HTx.out.2.2.2, h1, h2, hpr⟩, s, c, by rw [Int.zero_add], hs1 hpr, ?_⟩
        have := HQ.out.2.1
        simpa using this
      obtain ⟨y, hy⟩ : ∃ y, y = IntKind.i64.wrap (0 + (c : Int)) := ⟨_, rfl⟩
      rw [← hy] at HF D7
      rw [decide_eq_true hpr]
      have c12 := cell0 D7
      clear hs1 hs2 hpr HNO HQ D7 hy hW7
      go_wp2_with fail
      go_quiet (fail)
      go_wp2
      go_ret3
      exact ⟨HF.out, hB7.os, hB7.tape, hB7.output, hB7.size, hB7.block⟩
    · have HF := HNO.out (fun h => hpr h.2.2.2.2)
      rw [decide_eq_false hpr]
      clear hs1 hs2 hpr HNO HQ D7 hW7
      go_wp2
      go_ret3
      exact ⟨HF.out, hB7⟩
end Go.Proofs.YthbnacikomimfaaDoor
