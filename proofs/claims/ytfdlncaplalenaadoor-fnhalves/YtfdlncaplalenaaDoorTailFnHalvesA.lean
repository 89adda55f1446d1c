/-
  The texts SpecMh, ImplMh, ImplAdd, PkImplMul, LawHalves, RecArg, one behind the other, as one.
-/
import Derived.Test.YtfdlncaplalenaaDoorSpecHal
import Derived.Test.YtfdlncaplalenaaDoorL1In
import Derived.Test.YtfdlncaplalenaaDoorImplHal
import Derived.Test.YtfdlncaplalenaaDoorPkSpecAdd
import Derived.Test.YtfdlncaplalenaaDoorText
import Derived.Test.YtfdlncaplalenaaDoorPkHeld
import Derived.Test.YtfdlncaplalenaaDoorPkSpecMul
import Derived.Test.YtfdlncaplalenaaDoorPkMinus
import Derived.Test.YtfdlncaplalenaaDoorLaid
import Derived.Test.YtfdlncaplalenaaDoorDrawHal
import Derived.Test.YtfdlncaplalenaaDoorHalBd
import Derived.Test.YtfdlncaplalenaaDoorRecs
import Derived.Deep.Strs
import Derived.Carry
import Derived.WalkKit
import Derived.ProofKit
import Derived.OpenShut
import Derived.ShutString
import Derived.ChangeOld

/-
  What spec.MulByHalves answers.
-/
namespace Go.Proofs.YtfdlncaplalenaaDoor
open Go.RowKit
set_option linter.unusedVariables false

/-- It is answered at all. -/
def MhOk (a b : ByteArray) (n : Int) : Prop := goodB a.data.toList = true ∧ goodB b.data.toList = true ∧ 1 ≤ n ∧ n ≤ 100 ∧ dval a.data.toList * dval b.data.toList < 10 ^ 600
/-- What both answer. -/
def MhAns (a b : ByteArray) (n : Int) (e : Ending) : Prop :=
  (MhOk a b n ∧ ∃ (p : ByteArray) (c : Nat), e = .returned (.tuple #[.string p, .int .i64 (IntKind.i64.wrap (c : Int)), .bool true]) ∧ Tx p (dval a.data.toList * dval b.data.toList) ∧ Hal n.toNat (dval a.data.toList) (dval b.data.toList) c) ∨
  (¬ MhOk a b n ∧ e = .returned (.tuple #[.string ⟨#[]⟩, .int .i64 0, .bool false]))
theorem MhAns.same {a b : ByteArray} {n : Int} {e e' : Ending} (h : MhAns a b n e) (g : MhAns a b n e') : ∃ (s : ByteArray) (x : Int) (o : Bool), e = .returned (.tuple #[.string s, .int .i64 x, .bool o]) ∧ e' = .returned (.tuple #[.string s, .int .i64 x, .bool o]) := by
  rcases h with ⟨h0, p, c, rfl, h1, h2⟩ | ⟨h0, rfl⟩
  · rcases g with ⟨g0, p', c', rfl, g1, g2⟩ | ⟨g0, rfl⟩
    · obtain rfl := h1.inj g1
      obtain rfl := h2.same g2
      exact ⟨_, _, _, rfl, rfl⟩
    · exact absurd h0 g0
  · rcases g with ⟨g0, _⟩ | ⟨g0, rfl⟩
    · exact absurd g0 h0
    · exact ⟨_, _, _, rfl, rfl⟩
theorem good_tx {a : ByteArray} (h : goodB a.data.toList = true) : Tx a (dval a.data.toList) ∧ a.size ≤ 600 := by
  have h1 := (Bool.and_eq_true_iff.1 (show (decide (a.data.toList.length ≤ 600) && canonB a.data.toList) = true from h))
  refine ⟨⟨h1.2, rfl⟩, ?_⟩
  have h2 := of_decide_eq_true h1.1
  rw [Array.length_toList] at h2
  exact h2

set_option maxHeartbeats 4000000 in
set_option maxRecDepth 100000 in
theorem specMh_any (a b : ByteArray) (n : Int) (w : World) (hsa : a.size ≤ maxLen) (hsb : b.size ≤ maxLen) :
    Calls Tryd.prog 6 #[.string a, .string b, .int .i64 n] w fun e w' => MhAns a b n e ∧ Below w.heap.size w w' := by
  have hno : ¬ MhOk a b n → Hid (MhAns a b n (.returned (.tuple #[.string ⟨#[]⟩, .int .i64 0, .bool false]))) := fun h => .inr ⟨h, rfl⟩
  cases hg : (goodB a.data.toList && goodB b.data.toList) with
  | false =>
    have HF := hno (fun h => by rw [h.1, h.2.1] at hg; cases hg)
    clear hno
    go_enter Tryd.func6, Tryd.ntmps6
    go_wp2_with fail
    refine (l1Both_any a b _ hsa hsb).mono ?_
    rintro e w1 ⟨rfl, rfl⟩
    rw [hg]
    clear hg
    go_wp2
    go_ret3
    exact ⟨HF.out, Below.refl _ _⟩
  | true =>
    cases hi : (decide (1 ≤ n) && decide (n ≤ 100)) with
    | false =>
      have HF := hno (fun h => by rw [decide_eq_true h.2.2.1, decide_eq_true h.2.2.2.1] at hi; cases hi)
      clear hno
      go_enter Tryd.func6, Tryd.ntmps6
      go_wp2_with fail
      refine (l1Both_any a b _ hsa hsb).mono ?_
      rintro e w1 ⟨rfl, rfl⟩
      rw [hg]
      clear hg
      go_wp2_with fail
      refine (l1In_any n 1 100 _).mono ?_
      rintro e w1 ⟨rfl, rfl⟩
      rw [hi]
      clear hi
      go_wp2
      go_ret3
      exact ⟨HF.out, Below.refl _ _⟩
    | true =>
      simp only [Bool.and_eq_true, decide_eq_true_eq] at hi
      obtain ⟨l, rfl⟩ : ∃ l : Nat, n = (l : Int) := ⟨n.toNat, by omega⟩
      have hg' := hg
      simp only [Bool.and_eq_true] at hg'
      obtain ⟨ta, sa⟩ := good_tx hg'.1
      obtain ⟨tb, sb⟩ := good_tx hg'.2
      have hi' : (decide (1 ≤ (l : Int)) && decide ((l : Int) ≤ 100)) = true := by simp only [Bool.and_eq_true, decide_eq_true_eq]; exact hi
      have HT := hideT' (And.intro ta (And.intro tb (And.intro hg' hi)))
      have hl1 : 1 ≤ l := by omega
      have hl2 : l ≤ 100 := by omega
      clear hg' hi ta tb
      go_enter Tryd.func6, Tryd.ntmps6
      go_wp2_with fail
      refine (l1Both_any a b _ hsa hsb).mono ?_
      rintro e w1 ⟨rfl, rfl⟩
      rw [hg]
      clear hg
      go_wp2_with fail
      refine (l1In_any (l : Int) 1 100 _).mono ?_
      rintro e w1 ⟨rfl, rfl⟩
      rw [hi']
      clear hi'
      have HNO := hideT' hno
      clear hno
      go_wp2_with fail
      refine (laHalves_any l hl1 hl2 _ a b _ _ _ rfl HT.out.1 HT.out.2.1 sa sb).mono ?_
      rintro e w2 ⟨⟨p, x, c, rfl, tp, hH, hx⟩, hW⟩
      have HP := hideT' (And.intro tp (And.intro hH hx))
      clear tp hH hx
      by_cases hp : (600 : Int) < (p.size : Int)
      · have HF := HNO.out (fun h => by
          have := HP.out.1.size (k := 600) h.2.2.2.2 (by decide)
          omega)
        clear HNO
        go_wp2
        go_ret3
        exact ⟨HF.out, hW⟩
      · have HF : Hid (MhAns a b (l : Int) (.returned (.tuple #[.string p, .int .i64 x, .bool true]))) := by
          refine .inl ⟨⟨HT.out.2.2.1.1, HT.out.2.2.1.2, HT.out.2.2.2.1, HT.out.2.2.2.2, HP.out.1.lt' (k := 600) (by omega)⟩, p, c, by rw [HP.out.2.2], HP.out.1, ?_⟩
          have := HP.out.2.1
          simpa using this
        clear HNO
        go_wp2
        go_ret3
        exact ⟨HF.out, hW⟩
end Go.Proofs.YtfdlncaplalenaaDoor

/-
  What impl.MulByHalves answers.
-/
namespace Go.Proofs.YtfdlncaplalenaaDoor
open Go.RowKit
set_option linter.unusedVariables false

theorem zero_fnat2 : ∀ w, (zeroValue 44).run Tryd.prog w = .ok .nilFunc w := (zero_of_info (n := 1) (by kernel_rfl)).1

set_option maxHeartbeats 8000000 in
set_option maxRecDepth 100000 in
theorem implMh_any (a b : ByteArray) (n : Int) (w : World) (hsa : a.size ≤ maxLen) (hsb : b.size ≤ maxLen) (hT : Tab w.heap.size w) :
    Calls Tryd.prog 5 #[.string a, .string b, .int .i64 n] w fun e w' => MhAns a b n e ∧ Below w.heap.size w w' := by
  have hz := zero_nat.1
  have hzf := zero_fnat2
  have hmf : ∀ (fn : Fn) (first cap : Array Value) (w : World), (Instr.makeFunc fn first cap).run Tryd.prog w = .ok (.func fn first cap) w := fun _ _ _ _ => rfl
  have HT := hideT' hT
  clear hT
  have L0 : RowAt (w.alloc (.cells #[.int .i64 n] 3)) w.heap.size 3 #[.int .i64 n] := RowAt.new _ _ _
  have hB0 : Below w.heap.size w (w.alloc (.cells #[.int .i64 n] 3)) := (Below.refl _ _).alloc (Nat.le_refl _) _
  have hno : ¬ MhOk a b n → Hid (MhAns a b n (.returned (.tuple #[.string ⟨#[]⟩, .int .i64 0, .bool false]))) := fun h => .inr ⟨h, rfl⟩
  have HNO := hideT' hno
  clear hno
  go_enter Tryd.func5, Tryd.ntmps5
  go_wp2_with fail
  refine (readNats_any a b _ hsa hsb).mono ?_
  rintro e w1 ⟨k, m, p, q, oa, ob, rfl, hRa, hRb, hW1⟩
  have hp := hRa.len
  have hq := hRb.len
  have hB1 : Below w.heap.size w w1 := hB0.trans (hW1.mono (by simp))
  have L1 := RowAt.below L0 hW1 (by simp)
  have N9 := (NatAt.new w1 0 zP).old (.cells (natC 0 zP) 41)
  have N10 := NatAt.new (w1.alloc (.cells (natC 0 zP) 41)) 0 zP
  simp only [World.size_alloc] at N10
  have HRd := hideT' (And.intro hRa hRb)
  have hz1 := hB1.size
  have hl1 := L1.lt
  have hoa : oa = goodB a.data.toList := hRa.ok
  have hob : ob = goodB b.data.toList := hRb.ok
  clear L0 hB0 hW1 hRa hRb
  have hab : (oa && ob) = (goodB a.data.toList && goodB b.data.toList) := by rw [hoa, hob]
  cases hg : (goodB a.data.toList && goodB b.data.toList) with
  | false =>
    rw [hg] at hab
    have HF := HNO.out (fun h => by rw [h.1, h.2.1] at hg; cases hg)
    clear HNO HRd hoa hob hg
    go_wp2_with (first | (refine store_nat rfl (.tmp 9) _ rfl rfl w1.heap.size k p rfl rfl 0 zP N9 zP_len hp ?_; intro w2 hN2 hg2 hs2; have N102 := N10.grown hg2 (by simp)) | (refine store_nat rfl (.tmp 10) _ rfl rfl (w1.heap.size + 1) m q rfl rfl 0 zP N102 zP_len hq ?_; intro w3 hN3 hg3 hs3; have L3 := ((RowAt.old (RowAt.old L1 (.cells (natC 0 zP) 41)) (.cells (natC 0 zP) 41)).grown hg2 (by simp; omega)).grown hg3 (by simp; omega); have c5 := cell0 L3))
    have hB3 : Below w.heap.size w w3 := (((hB1.alloc hz1 _).alloc (by simp; omega) _).grown hg2 (by simp; omega) (by intro k hk; cases hk; omega)).grown hg3 (by rw [hs2]; simp; omega) (by intro k hk; cases hk; omega)
    go_ret3
    exact ⟨HF.out, hB3⟩
  | true =>
    rw [hg] at hab
    have hg' := Bool.and_eq_true_iff.1 hg
    obtain ⟨ta, sa⟩ := good_tx hg'.1
    obtain ⟨tb, sb⟩ := good_tx hg'.2
    have sa' : (a.size : Int) ≤ 600 := by omega
    have sb' : (b.size : Int) ≤ 600 := by omega
    have HTx := hideT' (And.intro ta (And.intro tb hg'))
    clear hg hg' ta tb
    by_cases h1 : n < 1
    · skip
      have HF := HNO.out (fun h => by have := h.2.2.1; omega)
      clear HNO HRd hoa hob
      go_wp2_with (first | (refine store_nat rfl (.tmp 9) _ rfl rfl w1.heap.size k p rfl rfl 0 zP N9 zP_len hp ?_; intro w2 hN2 hg2 hs2; have N102 := N10.grown hg2 (by simp)) | (refine store_nat rfl (.tmp 10) _ rfl rfl (w1.heap.size + 1) m q rfl rfl 0 zP N102 zP_len hq ?_; intro w3 hN3 hg3 hs3; have L3 := ((RowAt.old (RowAt.old L1 (.cells (natC 0 zP) 41)) (.cells (natC 0 zP) 41)).grown hg2 (by simp; omega)).grown hg3 (by simp; omega); have c5 := cell0 L3))
      have hB3 : Below w.heap.size w w3 := (((hB1.alloc hz1 _).alloc (by simp; omega) _).grown hg2 (by simp; omega) (by intro k hk; cases hk; omega)).grown hg3 (by rw [hs2]; simp; omega) (by intro k hk; cases hk; omega)
      go_ret3
      exact ⟨HF.out, hB3⟩
    by_cases h2 : (100 : Int) < n
    · skip
      have HF := HNO.out (fun h => by have := h.2.2.2.1; omega)
      clear HNO HRd hoa hob
      go_wp2_with (first | (refine store_nat rfl (.tmp 9) _ rfl rfl w1.heap.size k p rfl rfl 0 zP N9 zP_len hp ?_; intro w2 hN2 hg2 hs2; have N102 := N10.grown hg2 (by simp)) | (refine store_nat rfl (.tmp 10) _ rfl rfl (w1.heap.size + 1) m q rfl rfl 0 zP N102 zP_len hq ?_; intro w3 hN3 hg3 hs3; have L3 := ((RowAt.old (RowAt.old L1 (.cells (natC 0 zP) 41)) (.cells (natC 0 zP) 41)).grown hg2 (by simp; omega)).grown hg3 (by simp; omega); have c5 := cell0 L3))
      have hB3 : Below w.heap.size w w3 := (((hB1.alloc hz1 _).alloc (by simp; omega) _).grown hg2 (by simp; omega) (by intro k hk; cases hk; omega)).grown hg3 (by rw [hs2]; simp; omega) (by intro k hk; cases hk; omega)
      go_ret3
      exact ⟨HF.out, hB3⟩
    by_cases h3 : (600 : Int) < (a.size : Int) + (b.size : Int) - 1
    · skip
      have HF := HNO.out (fun h => by
        have h4 := h.2.2.2.2
        have la := HTx.out.1.len
        have lb := HTx.out.2.1.len
        have na : dval a.data.toList ≠ 0 := fun h0 => by have := la.2.2.2 h0; omega
        have nb : dval b.data.toList ≠ 0 := fun h0 => by have := lb.2.2.2 h0; omega
        have g1 := Nat.mul_le_mul (la.2.2.1 na) (lb.2.2.1 nb)
        rw [← Nat.pow_add] at g1
        have g2 := (Nat.pow_lt_pow_iff_right (by decide : 1 < 10)).1 (Nat.lt_of_le_of_lt g1 h4)
        omega)
      clear HNO HRd hoa hob
      go_wp2_with (first | (refine store_nat rfl (.tmp 9) _ rfl rfl w1.heap.size k p rfl rfl 0 zP N9 zP_len hp ?_; intro w2 hN2 hg2 hs2; have N102 := N10.grown hg2 (by simp)) | (refine store_nat rfl (.tmp 10) _ rfl rfl (w1.heap.size + 1) m q rfl rfl 0 zP N102 zP_len hq ?_; intro w3 hN3 hg3 hs3; have L3 := ((RowAt.old (RowAt.old L1 (.cells (natC 0 zP) 41)) (.cells (natC 0 zP) 41)).grown hg2 (by simp; omega)).grown hg3 (by simp; omega); have c5 := cell0 L3))
      have hB3 : Below w.heap.size w w3 := (((hB1.alloc hz1 _).alloc (by simp; omega) _).grown hg2 (by simp; omega) (by intro k hk; cases hk; omega)).grown hg3 (by rw [hs2]; simp; omega) (by intro k hk; cases hk; omega)
      go_ret3
      exact ⟨HF.out, hB3⟩
    obtain ⟨l, rfl⟩ : ∃ l : Nat, n = (l : Int) := ⟨n.toNat, by omega⟩
    have hl1 : 1 ≤ l := by omega
    have hl2 : l ≤ 100 := by omega
    have hRa := HRd.out.1.rep HTx.out.2.2.1
    have hRb := HRd.out.2.rep HTx.out.2.2.2
    have hbd : Bd (dval a.data.toList) (dval b.data.toList) := by
      have g1 := HTx.out.1.lt' (k := a.size) (Nat.le_refl _)
      have g2 := HTx.out.2.1.lt' (k := b.size) (Nat.le_refl _)
      have h4 : a.size + b.size ≤ 601 := by omega
      have g3 := prod_ltH (k := 601) g1 g2 h4
      have g4 := HTx.out.1.lt' (k := 600) sa
      have g5 := HTx.out.2.1.lt' (k := 600) sb
      exact ⟨g4, g5, g3⟩
    have HR := hideT' (And.intro hRa (And.intro hRb hbd))
    clear hRa hRb hbd HRd hoa hob
    have h1' : ¬ (l : Int) < 1 := h1
    go_wp2_with (first | (refine store_nat rfl (.tmp 9) _ rfl rfl w1.heap.size k p rfl rfl 0 zP N9 zP_len hp ?_; intro w2 hN2 hg2 hs2; have N102 := N10.grown hg2 (by simp)) | (refine store_nat rfl (.tmp 10) _ rfl rfl (w1.heap.size + 1) m q rfl rfl 0 zP N102 zP_len hq ?_; intro w3 hN3 hg3 hs3; have L3 := ((RowAt.old (RowAt.old L1 (.cells (natC 0 zP) 41)) (.cells (natC 0 zP) 41)).grown hg2 (by simp; omega)).grown hg3 (by simp; omega); have c5 := cell0 L3; have HS2 := hideT' hs2; have HS3 := hideT' hs3; clear hs2 hs3) | (refine store_at rfl 44 (.tmp 13) _ rfl rfl (w3.heap.size + 1) 0 (CL w.heap.size w3.heap.size (w3.heap.size + 1)) rfl rfl (by kernel_rfl) rfl 44 #[.nilFunc] (by have h := RowAt.new (w3.alloc (.cells #[.int .i64 0] 3)) 44 #[.nilFunc]; simpa only [World.size_alloc] using h) (by decide) ?_; intro w5 hM5 hg5 hs5; have HS5 := hideT' hs5; clear hs5; have hl3 := L3.lt; have c13 := cell0 (v := .func (.func 13) #[] #[.pointer (some ⟨w.heap.size, 0, none⟩), .pointer (some ⟨w3.heap.size, 0, none⟩), .pointer (some ⟨w3.heap.size + 1, 0, none⟩)]) hM5; have N95 := ((((hN2.grown hg3 (by simp)).old (.cells #[.int .i64 0] 3)).old (.cells #[.nilFunc] 44)).grown hg5 (by simp; have := hN3.lt; omega)); have N105 := (((hN3.old (.cells #[.int .i64 0] 3)).old (.cells #[.nilFunc] 44)).grown hg5 (by simp; have := hN3.lt; omega))) | (refine load_nat rfl (.tmp 9) rfl w1.heap.size rfl k p N95 hp ?_) | (refine load_nat rfl (.tmp 10) rfl (w1.heap.size + 1) rfl m q N105 hq ?_))
    have hs2 := HS2.out
    have hs3 := HS3.out
    have D5 : RowAt w5 w3.heap.size 3 #[.int .i64 0] := ((RowAt.new w3 3 #[.int .i64 0]).old (.cells #[.nilFunc] 44)).grown hg5 (by simp)
    have L5 := ((L3.old (.cells #[.int .i64 0] 3)).old (.cells #[.nilFunc] 44)).grown hg5 (by simp; omega)
    have hB3 : Below w.heap.size w w3 := (((hB1.alloc hz1 _).alloc (by simp; omega) _).grown hg2 (by simp; omega) (by intro k hk; cases hk; omega)).grown hg3 (by rw [hs2]; simp; omega) (by intro k hk; cases hk; omega)
    have hz3 := hB3.size
    have hB5 : Below w.heap.size w w5 := (((hB3.alloc hz3 _).alloc (by simp; omega) _)).grown hg5 (by simp; omega) (by intro k hk; cases hk; omega)
    refine (mult_all w.heap.size w.heap.size w3.heap.size (w3.heap.size + 1) l hl1 hl2 _ _ _ k m p q 0 w5 rfl HR.out.1 HR.out.2.1 HR.out.2.2 ⟨L5, D5, hM5, by omega, by omega, by omega, HT.out.on hB5⟩).mono ?_
    rintro e w6 ⟨i, r, c, rfl, hQ, hC, hD6, hK6⟩
    have hB6 : Below w.heap.size w w6 := hB5.trans (hK6.to (by omega) D5.lt)
    have HQ := hideT' (And.intro hQ (And.intro hC (And.intro hD6 hB6)))
    have hl6 := hD6.lt
    clear hQ hC hD6 hK6 D5 L5 hM5 hg5 c13 N95 N105 hB5 hB3 hN2 hg2 hs2 N102 hN3 hg3 hs3 L3 c5 HS2 HS3 HS5 L1 N9 N10 hB1
    go_wp2_with fail
    refine (tellNat_any w6 HQ.out.1 ((HT.out.on HQ.out.2.2.2).up HQ.out.2.2.2.size)).mono ?_
    rintro e w7 ⟨s, rfl, hs1, hs2, hW7⟩
    have hB7 : Below w.heap.size w w7 := HQ.out.2.2.2.trans (hW7.mono HQ.out.2.2.2.size)
    have D7 := HQ.out.2.2.1.below hW7 hl6
    by_cases hpr : dval a.data.toList * dval b.data.toList < 10 ^ 600
    · have HF : Hid (MhAns a b (l : Int) (.returned (.tuple #[.string s, .int .i64 (IntKind.i64.wrap (0 + (c : Int))), .bool true]))) := by
        refine .inl ⟨⟨HTx.out.2.2.1, HTx.out.2.2.2, h1, h2, hpr⟩, s, c, by rw [Int.zero_add], hs1 hpr, ?_⟩
        have := HQ.out.2.1
        simpa using this
      obtain ⟨y, hy⟩ : ∃ y, y = IntKind.i64.wrap (0 + (c : Int)) := ⟨_, rfl⟩
      rw [← hy] at HF D7
      rw [decide_eq_true hpr]
      have c12 := cell0 D7
      clear hs1 hs2 hpr HNO HQ D7 hy hW7
      go_wp2_with fail
      go_quiet (fail)
      go_wp2
      go_ret3
      exact ⟨HF.out, hB7.os, hB7.tape, hB7.output, hB7.size, hB7.block⟩
    · have HF := HNO.out (fun h => hpr h.2.2.2.2)
      rw [decide_eq_false hpr]
      clear hs1 hs2 hpr HNO HQ D7 hW7
      go_wp2
      go_ret3
      exact ⟨HF.out, hB7⟩
end Go.Proofs.YtfdlncaplalenaaDoor

/-
  What impl.AddNat answers.
-/
namespace Go.Proofs.YtfdlncaplalenaaDoor
open Go.RowKit
set_option linter.unusedVariables false

theorem Rep.small {n k : Nat} {p : List Int} (h : Rep n k p) (hn : n < 10 ^ 600) : k ≤ 100 := h.fits.2 hn

end Go.Proofs.YtfdlncaplalenaaDoor

/-
  The texts ImplMul, ImplPow, one behind the other.
-/

/-
  What impl.MulNat answers.
-/
namespace Go.Proofs.YtfdlncaplalenaaDoor
open Go.RowKit
set_option linter.unusedVariables false

set_option maxHeartbeats 1000000 in
set_option maxRecDepth 100000 in
theorem implMul_any (a b : ByteArray) (w : World) (hsa : a.size ≤ maxLen) (hsb : b.size ≤ maxLen) (hT : Tab w.heap.size w) :
    Calls Tryd.prog 7 #[.string a, .string b] w fun e w' => Ans (goodB a.data.toList && goodB b.data.toList) (dval a.data.toList * dval b.data.toList) e ∧ Below w.heap.size w w' := by
  have hz := zero_nat.1
  have HT : Hid (Tab w.heap.size w) := hT
  clear hT
  go_enter Tryd.func7, Tryd.ntmps7
  go_wp2_with fail
  refine (readNats_any a b _ hsa hsb).mono ?_
  rintro e w1 ⟨k, m, p, q, oa, ob, rfl, hRa, hRb, hW1⟩
  have hp := hRa.len
  have hq := hRb.len
  have hs1 := hW1.size
  have A := (NatAt.new w1 0 zP).old (.cells (natC 0 zP) 41)
  have B := NatAt.new (w1.alloc (.cells (natC 0 zP) 41)) 0 zP
  have hB : Below w.heap.size w ((w1.alloc (.cells (natC 0 zP) 41)).alloc (.cells (natC 0 zP) 41)) := (hW1.alloc (by omega) _).alloc (by simp; omega) _
  simp only [World.size_alloc] at B
  have hok : oa = goodB a.data.toList := hRa.ok
  have hok' : ob = goodB b.data.toList := hRb.ok
  cases hg : (oa && ob) with
  | true =>
    have HG : Hid ((goodB a.data.toList && goodB b.data.toList) = true) := by unfold Hid; rw [← hok, ← hok']; exact hg
    have hga : goodB a.data.toList = true := by have := HG.out; simp only [Bool.and_eq_true] at this; exact this.1
    have hgb : goodB b.data.toList = true := by have := HG.out; simp only [Bool.and_eq_true] at this; exact this.2
    have ra : Rep (dval a.data.toList) k p := hRa.rep hga
    have rb : Rep (dval b.data.toList) m q := hRb.rep hgb
    have hk := ra.small (good_lt hga)
    have hm := rb.small (good_lt hgb)
    have RA := hideT (And.intro ra rb)
    clear hg hga hgb ra rb
    go_wp2_with (first | (refine store_nat rfl _ _ rfl rfl w1.heap.size k p rfl rfl 0 zP A zP_len hp ?_; intro w2 hN2 hg2 hs2) | (refine store_nat rfl _ _ rfl rfl (w1.heap.size + 1) m q rfl rfl 0 zP (B.grown hg2 (by simp)) zP_len hq ?_; intro w3 hN3 hg3 hs3) | (refine load_nat rfl _ rfl w1.heap.size rfl k p (hN2.grown hg3 (by simp)) hp ?_) | (refine load_nat rfl _ rfl (w1.heap.size + 1) rfl m q hN3 hq ?_))
    refine (times_any w3 RA.out.1 RA.out.2 hk hm).mono ?_
    rintro e w4 ⟨i, r, rfl, hR, hW4⟩
    have hB3 : Below w.heap.size w w3 := (hB.grown hg2 (by simp; omega) (by intro k hk; cases hk; omega)).grown hg3 (by rw [hs2]; simp; omega) (by intro k hk; cases hk; omega)
    have hs3 := hB3.size
    have hB4 : Below w.heap.size w w4 := hB3.trans (hW4.mono (by omega))
    have hs4 := hB4.size
    have HR := hideT hR
    have HT4 : Hid (Tab w4.heap.size w4) := (HT.out.on hB4).up hs4
    clear A B hB hN2 hg2 hs2 hN3 hg3 hB3 hW4 hR
    go_wp2_with fail
    refine (tellNat_any w4 HR.out HT4.out).mono ?_
    rintro e w5 ⟨s, rfl, h1, h2, hW5⟩
    have HS := hideT (And.intro h1 h2)
    obtain ⟨bb, hbb⟩ : ∃ bb, bb = decide (dval a.data.toList * dval b.data.toList < 10 ^ 600) := ⟨_, rfl⟩
    rw [← hbb]
    have HBB := hideT hbb
    clear hbb h1 h2
    go_wp2
    go_ret2
    exact ⟨.inl ⟨HG.out, s, by rw [← HBB.out]; rfl, HS.out.1, HS.out.2⟩, hB4.trans (hW5.mono hs4)⟩
  | false =>
    have HG : Hid ((goodB a.data.toList && goodB b.data.toList) = false) := by unfold Hid; rw [← hok, ← hok']; exact hg
    clear hg
    go_wp2_with (first | (refine store_nat rfl _ _ rfl rfl w1.heap.size k p rfl rfl 0 zP A zP_len hp ?_; intro w2 hN2 hg2 hs2) | (refine store_nat rfl _ _ rfl rfl (w1.heap.size + 1) m q rfl rfl 0 zP (B.grown hg2 (by simp)) zP_len hq ?_; intro w3 hN3 hg3 hs3))
    go_ret2
    exact ⟨.inr ⟨HG.out, rfl⟩, (hB.grown hg2 (by simp; omega) (by intro k hk; cases hk; omega)).grown hg3 (by rw [hs2]; simp; omega) (by intro k hk; cases hk; omega)⟩
end Go.Proofs.YtfdlncaplalenaaDoor

/-
  What impl.PowNat answers.
-/
namespace Go.Proofs.YtfdlncaplalenaaDoor
open Go.RowKit
set_option linter.unusedVariables false

end Go.Proofs.YtfdlncaplalenaaDoor

/-
  The law FnHalves: its walk.
-/
namespace Go.Proofs.YtfdlncaplalenaaDoor
open Go.RowKit
set_option linter.unusedVariables false

theorem hv_small {s : ByteArray} (h : s.size ≤ 1000) : s.size ≤ maxLen := by unfold maxLen; omega
set_option maxRecDepth 100000 in
/-- What the three calls tell. -/
theorem halves_same {a b p q r : ByteArray} {n x y : Int} {o is : Bool} (h1 : MhAns a b n (.returned (.tuple #[.string p, .int .i64 x, .bool true]))) (h2 : Ans (goodB a.data.toList && goodB b.data.toList) (dval a.data.toList * dval b.data.toList) (.returned (.tuple #[.string q, .bool is])))
    (h3 : MhAns a b 100 (.returned (.tuple #[.string r, .int .i64 y, .bool o]))) : is = true ∧ q = p ∧ 1 ≤ x ∧ o = true ∧ r = p ∧ ((a.size ≤ 100 ∨ b.size ≤ 100) → y = 1) := by
  rcases h1 with ⟨⟨ga, gb, g1, g2, g3⟩, p', c, he, tp, hH⟩ | ⟨_, he⟩
  · obtain ⟨rfl, rfl⟩ : p = p' ∧ x = IntKind.i64.wrap (c : Int) := by
      simp only [Ending.returned.injEq, Value.tuple.injEq, Array.mk.injEq, List.cons.injEq, Value.string.injEq, Value.int.injEq, true_and, and_true] at he
      exact he
    obtain ⟨ta, sa⟩ := good_tx ga
    obtain ⟨tb, sb⟩ := good_tx gb
    have hc1 := hH.pos
    have hc2 := hal_most (E := 600) 10 (by omega) hH (by decide) (ta.lt' (k := 600) sa) (tb.lt' (k := 600) sb)
    rw [show 11 * 3 ^ 10 = 649539 by decide] at hc2
    have hx : 1 ≤ IntKind.i64.wrap (c : Int) := by rw [IntKind.wrap_i64]; omega
    rcases h2 with ⟨_, h2⟩ | ⟨h2, _⟩
    · rcases h3 with ⟨_, r', c', he3, tr, hH3⟩ | ⟨h3, _⟩
      · obtain ⟨rfl, rfl, rfl⟩ : r = r' ∧ y = IntKind.i64.wrap (c' : Int) ∧ o = true := by
          simp only [Ending.returned.injEq, Value.tuple.injEq, Array.mk.injEq, List.cons.injEq, Value.string.injEq, Value.int.injEq, Value.bool.injEq, true_and, and_true] at he3
          exact he3
        obtain rfl := tr.inj tp
        obtain ⟨s2, he2, hc3, _⟩ := h2
        simp only [Ending.returned.injEq, Value.tuple.injEq, Array.mk.injEq, List.cons.injEq, Value.string.injEq, Value.bool.injEq, and_true] at he2
        obtain ⟨e1, e2⟩ := he2
        subst e1
        have tq : Tx q (dval a.data.toList * dval b.data.toList) := hc3 g3
        refine ⟨e2.trans (decide_eq_true g3), tq.inj tp, hx, rfl, rfl, fun h => ?_⟩
        have e1 := hH3.same (Hal.one ta.len tb.len h)
        rw [e1]; decide
      · exact absurd ⟨ga, gb, by decide, by decide, g3⟩ h3
    · rw [ga, gb] at h2; cases h2
  · simp at he

set_option maxHeartbeats 8000000 in
set_option maxRecDepth 100000 in
theorem halves_walk (l0 : List Int) (v0 : Value) (w : World) (h0 : Code w v0 l0) (hT : Tab w.heap.size w) :
    Calls Tryd.prog 3 #[v0] w fun e w' => e = .returned (.bool true) ∧ Below w.heap.size w w' := by
  have HC := hideT' h0
  obtain ⟨o0, c0, rfl⟩ := h0.1.len
  have HT := hideT' hT
  clear h0 hT
  go_enter Tryd.func3, Tryd.ntmps3
  by_cases hlong : (1048576 : Int) < (l0.length : Int)
  · go_wp2
    go_ret
    exact ⟨rfl, Below.refl _ _⟩
  go_wp2_with fail
  refine (drawHal_any _ l0 w HC.out).mono ?_
  rintro e w1 ⟨⟨a, b, n, rfl, ha, hb⟩, hB1⟩
  have HA := hideT' (And.intro (hv_small ha) (hv_small hb))
  have hsa : (a.size : Int) ≤ 1000 := by omega
  have hsb : (b.size : Int) ≤ 1000 := by omega
  clear ha hb
  go_wp2_with fail
  refine (implMh_any a b n w1 HA.out.1 HA.out.2 ((HT.out.on hB1).up hB1.size)).mono ?_
  rintro e w2 ⟨hA2, hB2⟩
  have hA2' := hA2
  have HP := hideT' hA2
  obtain ⟨p, x, o, he, _⟩ := hA2.same hA2'
  subst he
  have hV2 := hB1.trans (hB2.mono hB1.size)
  clear hA2 hA2' hB1 hB2
  go_wp2_with fail
  refine (specMh_any a b n w2 HA.out.1 HA.out.2).mono ?_
  rintro e w3 ⟨hA3, hB3⟩
  obtain ⟨p2, x2, o2, he1, he2⟩ := HP.out.same hA3
  obtain ⟨rfl, rfl, rfl⟩ : p = p2 ∧ x = x2 ∧ o = o2 := by
    simp only [Ending.returned.injEq, Value.tuple.injEq, Array.mk.injEq, List.cons.injEq, Value.string.injEq, Value.bool.injEq, and_true, Value.int.injEq, true_and] at he1
    simpa using he1
  subst he2
  have hV3 := hV2.trans (hB3.mono hV2.size)
  clear he1 hA3 hV2 hB3
  cases o with
  | false =>
    have hs : p = ⟨#[]⟩ := by
      rcases HP.out with ⟨_, p', c', h, _⟩ | ⟨_, h⟩
      · simp at h
      · simp only [Ending.returned.injEq, Value.tuple.injEq, Array.mk.injEq, List.cons.injEq, Value.string.injEq, and_true] at h
        exact h.1
    subst hs
    clear HP
    go_wp2
    go_ret
    exact ⟨rfl, hV3⟩
  | true =>
    go_wp2_with fail
    refine (implMul_any a b w3 HA.out.1 HA.out.2 ((HT.out.on hV3).up hV3.size)).mono ?_
    rintro e w4 ⟨hA4, hB4⟩
    have hA4' := hA4
    have H4 := hideT' hA4
    obtain ⟨q, is, he, _⟩ := hA4.same hA4'
    subst he
    have hV4 := hV3.trans (hB4.mono hV3.size)
    clear hA4 hA4' hV3 hB4
    go_wp2_with fail
    refine (implMh_any a b 100 w4 HA.out.1 HA.out.2 ((HT.out.on hV4).up hV4.size)).mono ?_
    rintro e w5 ⟨hA5, hB5⟩
    have hA5' := hA5
    obtain ⟨r, y, o5, he, _⟩ := hA5.same hA5'
    subst he
    obtain ⟨rfl, rfl, hx1, rfl, rfl, hy⟩ := halves_same HP.out H4.out hA5
    have hV5 := hV4.trans (hB5.mono hV4.size)
    clear hA5 hA5' hV4 hB5 H4 HP
    by_cases hab : a.size ≤ 100 ∨ b.size ≤ 100
    · obtain rfl := hy hab
      by_cases ha : (100 : Int) < (a.size : Int)
      · have hb : ¬ (100 : Int) < (b.size : Int) := by omega
        clear hab hy
        go_wp2
        go_ret
        exact ⟨rfl, hV5⟩
      · clear hab hy
        go_wp2
        go_ret
        exact ⟨rfl, hV5⟩
    · have ha : (100 : Int) < (a.size : Int) := by omega
      have hb : (100 : Int) < (b.size : Int) := by omega
      clear hab hy
      go_wp2
      go_ret
      exact ⟨rfl, hV5⟩
end Go.Proofs.YtfdlncaplalenaaDoor

/-
  Rows of records that came in as arguments: what their reading says of the cells.
-/
namespace Go.Proofs.YtfdlncaplalenaaDoor
open Go.ChangeShapes Go.WideShapes Go.ChangeAt Go.RowKit
set_option linter.unusedVariables false

theorem laidOutR : laidOutB Tryd.prog = true := by kernel_rfl

theorem cell_block {w : World} {a : Addr} {v : Value} (h : w.cell? a = some v) : a.block < w.heap.size := by
  rcases Nat.lt_or_ge a.block w.heap.size with h1 | h1
  · exact h1
  · have h2 : w.heap[a.block]? = none := Array.getElem?_eq_none h1
    simp [World.cell?, h2] at h

/-- A slice of records, out of what each record's reading says. -/
theorem open_recs {H : Type} {enc : TypeId × Value → H} {W : World} {X : Type} [Inhabited X] (f : X → List Value) (c : Nat) (hc0 : 0 < c) (hc : ∀ x, (f x).length = c) (Q : X → Prop) {t e : TypeId} (ht : Tryd.prog.underlying t = some (.slice e)) (hce : Tryd.prog.cellsOf e = c)
    (each : ∀ (n : Nat) (cs : List Value) (x : DataW H × List MemPlace), cs.length = c → DataW.trod enc Tryd.prog W 0 (fun _ => true) true n e cs = some x → ∃ d : X, cs = f d ∧ Q d)
    {fuel : Nat} {cs : List Value} {x : DataW H × List MemPlace} (h : DataW.trod enc Tryd.prog W 0 (fun _ => true) true fuel t cs = some x) :
    ∃ (v : Value) (l : List X), cs = [v] ∧ SlR W v f c l ∧ (∀ i, i < l.length → Q (l.getD i default)) ∧ l.length ≤ maxLen := by
  rcases Deep.open_slice ht h with ⟨h1, _⟩ | ⟨a, len', cap', m, n, D, Pl, h1, hb, hl, hm, hmm, hx, hel⟩
  · exact ⟨.slice none 0 0, [], h1, .inl ⟨rfl, rfl⟩, fun i hi => by simp at hi, by unfold maxLen; simp⟩
  · have hlm : len' ≤ m := by rw [hmm]; simp; exact hl
    have each' : ∀ i, i < len' → ∃ d : X, W.cells? 0 (a.add (i * c)) c = some (f d) ∧ Q d := fun i hi => by
      obtain ⟨cs', g1, g2⟩ := hel i (by omega)
      rw [hce] at g1
      obtain ⟨_, hlen, _⟩ := World.cells?_some g1
      obtain ⟨d, rfl, ht⟩ := each _ _ _ hlen g2
      exact ⟨d, g1, ht⟩
    obtain ⟨g, hfl⟩ := Deep.choose_lt each'
    have hlen : ((List.range len').map g).length = len' := by simp
    have hget : ∀ i, i < len' → ((List.range len').map g).getD i default = g i := fun i hi => by simp [List.getD, hi]
    refine ⟨_, (List.range len').map g, h1, .inr ⟨a, cap', by rw [hlen], fun i j v hi hv => ?_, fun h0 => ?_⟩, fun i hi => ?_, by rw [hlen]; omega⟩
    · rw [hlen] at hi
      rw [hget i hi] at hv
      obtain ⟨_, _, hcc⟩ := World.cells?_some (hfl i hi).1
      have hj : j < c := by
        have := (List.getElem?_eq_some_iff.1 hv).1
        rw [hc] at this
        exact this
      rw [hcc j hj]
      exact hv
    · rw [hlen] at h0
      obtain ⟨_, _, hcc⟩ := World.cells?_some (hfl 0 h0).1
      have h2 := hcc 0 hc0
      have h3 : (f (g 0))[0]? = some ((f (g 0))[0]'(by rw [hc]; exact hc0)) := List.getElem?_eq_getElem _
      rw [h3] at h2
      have := cell_block h2
      simpa [Addr.add] using this
    · rw [hlen] at hi
      rw [hget i hi]
      exact (hfl i hi).2
theorem cells_strR : Tryd.prog.cellsOf 9 = 1 := by kernel_rfl
theorem cells_intR : Tryd.prog.cellsOf 3 = 1 := by kernel_rfl
theorem cells_boolR : Tryd.prog.cellsOf 4 = 1 := by kernel_rfl
end Go.Proofs.YtfdlncaplalenaaDoor
