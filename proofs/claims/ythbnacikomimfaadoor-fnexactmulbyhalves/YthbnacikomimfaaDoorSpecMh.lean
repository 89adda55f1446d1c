/-
  What spec.MulByHalves answers.
-/
import Derived.Test.YthbnacikomimfaaDoorSpecHal
import Derived.Test.YthbnacikomimfaaDoorL1In
namespace Go.Proofs.YthbnacikomimfaaDoor
open Go.RowKit
set_option linter.unusedVariables false

/-- It is answered at all. -/
def MhOk (a b : ByteArray) (n : Int) : Prop := goodB a.data.toList = true ∧ goodB b.data.toList = true ∧ 1 ≤ n ∧ n ≤ 100 ∧ dval a.data.toList * dval b.data.toList < 10 ^ 600
/-- What both answer. -/
def MhAns (a b : ByteArray) (n : Int) (e : Ending) : Prop :=
  (MhOk a b n ∧ ∃ (p : ByteArray) (c : Nat), e = .returned (.tuple #[.string p, .int .i64 (IntKind.i64.wrap (c : Int)), .bool true]) ∧ Tx p (dval a.data.toList * dval b.data.toList) ∧ Hal n.toNat (dval a.data.toList) (dval b.data.toList) c) ∨
  (¬ MhOk a b n ∧ e = .returned (.tuple #[.string ⟨#[]⟩, .int .i64 0, .bool false]))
theorem MhAns.same {a b : ByteArray} {n : Int} {e e' : Ending} (h : MhAns a b n e) (g : MhAns a b n e') : ∃ (s : ByteArray) (x : Int) (o : Bool), e = .returned (.tuple #[.string s, .int .i64 x, .bool o]) ∧ e' = .returned (.tuple #[.string s, .int .i64 x, .bool o]) := by
  rcases h with ⟨h0, p, c, rfl, h1, h2⟩ | ⟨h0, rfl⟩
  · rcases g with ⟨g0, p', c', rfl, g1, g2⟩ | ⟨g0, rfl⟩
    · obtain rfl := h1.inj g1
      obtain rfl := h2.same g2
      exact ⟨_, _, _, rfl, rfl⟩
    · exact absurd h0 g0
  · rcases g with ⟨g0, _⟩ | ⟨g0, rfl⟩
    · exact absurd g0 h0
    · exact ⟨_, _, _, rfl, rfl⟩
theorem good_tx {a : ByteArray} (h : goodB a.data.toList = true) : Tx a (dval a.data.toList) ∧ a.size ≤ 600 := by
  have h1 := (Bool.and_eq_true_iff.1 (show (decide (a.data.toList.length ≤ 600) && canonB a.data.toList) = true from h))
  refine ⟨⟨h1.2, rfl⟩, ?_⟩
  have h2 := of_decide_eq_true h1.1
  rw [Array.length_toList] at h2
  exact h2

set_option maxHeartbeats 4000000 in
set_option maxRecDepth 100000 in
theorem specMh_any (a b : ByteArray) (n : Int) (w : World) (hsa : a.size ≤ maxLen) (hsb : b.size ≤ maxLen) :
    Calls Tryd.prog 6 #[.string a, .string b, .int .i64 n] w fun e w' => MhAns a b n e ∧ Below w.heap.size w w' := by
  have hno : ¬ MhOk a b n → Hid (MhAns a b n (.returned (.tuple #[.string ⟨#[]⟩, .int .i64 0, .bool false]))) := fun h => .inr ⟨h, rfl⟩
  cases hg : (goodB a.data.toList && goodB b.data.toList) with
  | false =>
    have HF := hno (fun h => by rw [h.1, h.2.1] at hg; cases hg)
    clear hno
    go_enter Tryd.func6, Tryd.ntmps6
    go_wp2_with fail
    refine (l1Both_any a b _ hsa hsb).mono ?_
    rintro e w1 ⟨rfl, rfl⟩
    rw [hg]
    clear hg
    go_wp2
    go_ret3
    exact ⟨HF.out, Below.refl _ _⟩
  | true =>
    cases hi : (decide (1 ≤ n) && decide (n ≤ 100)) with
    | false =>
      have HF := hno (fun h => by rw [decide_eq_true h.2.2.1, decide_eq_true h.2.2.2.1] at hi; cases hi)
      clear hno
      go_enter Tryd.func6, Tryd.ntmps6
      go_wp2_with fail
      refine (l1Both_any a b _ hsa hsb).mono ?_
      rintro e w1 ⟨rfl, rfl⟩
      rw [hg]
      clear hg
      go_wp2_with fail
      refine (l1In_any n 1 100 _).mono ?_
      rintro e w1 ⟨rfl, rfl⟩
      rw [hi]
      clear hi
      go_wp2
      go_ret3
      exact ⟨HF.out, Below.refl _ _⟩
    | true =>
      simp only [Bool.and_eq_true, decide_eq_true_eq] at hi
      obtain ⟨l, rfl⟩ : ∃ l : Nat, n = (l : Int) := ⟨n.toNat, by omega⟩
      have hg' := hg
      simp only [Bool.and_eq_true] at hg'
      obtain ⟨ta, sa⟩ := good_tx hg'.1
      obtain ⟨tb, sb⟩ := good_tx hg'.2
      have hi' : (decide (1 ≤ (l : Int)) && decide ((l : Int) ≤ 100)) = true := by simp only [Bool.and_eq_true, decide_eq_true_eq]; exact hi
      have HT := hideT' (And.intro ta (And.intro tb (And.intro hg' hi)))
      have hl1 : 1 ≤ l := by omega
      have hl2 : l ≤ 100 := by omega
      clear hg' hi ta tb
      go_enter Tryd.func6, Tryd.ntmps6
      go_wp2_with fail
      refine (l1Both_any a b _ hsa hsb).mono ?_
      rintro e w1 ⟨rfl, rfl⟩
      rw [hg]
      clear hg
      go_wp2_with fail
      refine (l1In_any (l : Int) 1 100 _).mono ?_
      rintro e w1 ⟨rfl, rfl⟩
      rw [hi']
      clear hi'
      have HNO := hideT' hno
      clear hno
      go_wp2_with fail
      refine (laHalves_any l hl1 hl2 _ a b _ _ _ rfl HT.out.1 HT.out.2.1 sa sb).mono ?_
      rintro e w2 ⟨⟨p, x, c, rfl, tp, hH, hx⟩, hW⟩
      have HP := hideT' (And.intro tp (And.intro hH hx))
      clear tp hH hx
      by_cases hp : (600 : Int) < (p.size : Int)
      · have HF := HNO.out (fun h => by
          have := HP.out.1.size (k := 600) h.2.2.2.2 (by decide)
          omega)
        clear HNO
        go_wp2
        go_ret3
        exact ⟨HF.out, hW⟩
      · have HF : Hid (MhAns a b (l : Int) (.returned (.tuple #[.string p, .int .i64 x, .bool true]))) := by
          refine .inl ⟨⟨HT.out.2.2.1.1, HT.out.2.2.1.2, HT.out.2.2.2.1, HT.out.2.2.2.2, HP.out.1.lt' (k := 600) (by omega)⟩, p, c, by rw [HP.out.2.2], HP.out.1, ?_⟩
          have := HP.out.2.1
          simpa using this
        clear HNO
        go_wp2
        go_ret3
        exact ⟨HF.out, hW⟩
end Go.Proofs.YthbnacikomimfaaDoor
