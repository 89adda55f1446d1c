/-
  What impl.ToRadix and spec.ToRadix answer.
-/
import Derived.Test.YtnjfmjpbfidboaaDoorImplDigits
import Derived.Test.YtnjfmjpbfidboaaDoorSpecToRadix
import Derived.Test.YtnjfmjpbfidboaaDoorImplAdd
import Derived.Test.YtnjfmjpbfidboaaDoorAns
namespace Go.Proofs.YtnjfmjpbfidboaaDoor
open Go.RowKit
set_option linter.unusedVariables false

/-- What ToRadix should answer. -/
def AnsR (a : ByteArray) (r : Int) (e : Ending) : Prop :=
  ((goodB a.data.toList && radOk r) = true ∧ ∃ s : ByteArray, e = .returned (.tuple #[.string s, .bool true]) ∧ InRad r.toNat (dval a.data.toList) s) ∨ ((goodB a.data.toList && radOk r) = false ∧ Mute e)

theorem AnsR.same {a : ByteArray} {r : Int} {e e' : Ending} (h : AnsR a r e) (h' : AnsR a r e') : ∃ (s : ByteArray) (o : Bool), e = .returned (.tuple #[.string s, .bool o]) ∧ e' = .returned (.tuple #[.string s, .bool o]) := by
  rcases h with ⟨g1, s, rfl, h⟩ | ⟨g1, h⟩ <;> rcases h' with ⟨g2, t, rfl, h'⟩ | ⟨g2, h'⟩
  · obtain rfl := h.inj h'
    exact ⟨s, true, rfl, rfl⟩
  · rw [g1] at g2; cases g2
  · rw [g1] at g2; cases g2
  · exact h.same h'

theorem rad_nat' {r : Int} (h : radOk r = true) : r = (r.toNat : Int) ∧ 2 ≤ r ∧ r ≤ 16 := by
  have := (radOk_iff r).1 h
  exact ⟨by omega, by omega, by omega⟩

set_option maxHeartbeats 1000000 in
set_option maxRecDepth 100000 in
theorem implToRadix_any (a : ByteArray) (r : Int) (w : World) (hsa : a.size ≤ maxLen) (hT : Tab w.heap.size w) :
    Calls Tryd.prog 24 #[.string a, .int .i64 r] w fun e w' => AnsR a r e ∧ Below w.heap.size w w' := by
  have hz := zero_nat.1
  have HT : Hid (Tab w.heap.size w) := hT
  clear hT
  go_enter Tryd.func24, Tryd.ntmps24
  go_wp2_with fail
  refine (readNat_any a _ hsa).mono ?_
  rintro e w1 ⟨k, p, oa, rfl, hRa, hW1⟩
  have hp := hRa.len
  have hs1 := hW1.size
  have A := NatAt.new w1 0 zP
  have hB : Below w.heap.size w (w1.alloc (.cells (natC 0 zP) 33)) := hW1.alloc (by omega) _
  have hok : oa = goodB a.data.toList := hRa.ok
  cases hg : oa with
  | true =>
    subst hg
    have hga : goodB a.data.toList = true := hok.symm
    have ra : Rep (dval a.data.toList) k p := hRa.rep hga
    have hk := ra.small (good_lt hga)
    have RA := hideT ra
    have HGA := hideT hga
    clear hga ra hok hRa
    go_wp2_with (refine store_nat rfl _ _ rfl rfl w1.heap.size k p rfl rfl 0 zP A zP_len hp ?_; intro w2 hN2 hg2 hs2)
    refine (goodRadix_any r _).mono ?_
    rintro e w3 ⟨rfl, rfl⟩
    have hB2 : Below w.heap.size w w3 := hB.grown hg2 (by simp; omega) (by intro k hk; cases hk; omega)
    have HT2 : Hid (Tab w3.heap.size w3) := (HT.out.on hB2).up hB2.size
    cases hr : radOk r with
    | true =>
      obtain ⟨hr1, hr2, hr3⟩ := rad_nat' hr
      have HR := hideT hr1
      have HOK : Hid ((goodB a.data.toList && radOk r) = true) := by unfold Hid; rw [HGA.out, hr]; rfl
      clear hr hr1
      go_wp2_with (refine load_nat rfl _ rfl w1.heap.size rfl k p hN2 hp ?_)
      refine (digits_any r.toNat r w3 RA.out hk HR.out hr2 hr3 HT2.out).mono ?_
      rintro e w4 ⟨s, rfl, hI, hW4⟩
      have HI : Hid (AnsR a r (.returned (.tuple #[.string s, .bool true]))) := .inl ⟨HOK.out, s, rfl, hI⟩
      clear hI
      go_wp2
      go_ret2
      exact ⟨HI.out, hB2.trans (hW4.mono hB2.size)⟩
    | false =>
      have HI : Hid (AnsR a r (.returned (.tuple #[.string ⟨#[]⟩, .bool false]))) := .inr ⟨by rw [hr, Bool.and_false], rfl⟩
      clear hr
      go_wp2
      go_ret2
      exact ⟨HI.out, hB2⟩
  | false =>
    subst hg
    have HI : Hid (AnsR a r (.returned (.tuple #[.string ⟨#[]⟩, .bool false]))) := .inr ⟨by rw [← hok, Bool.false_and], rfl⟩
    clear hok hRa
    go_wp2_with (refine store_nat rfl _ _ rfl rfl w1.heap.size k p rfl rfl 0 zP A zP_len hp ?_; intro w2 hN2 hg2 hs2)
    go_ret2
    exact ⟨HI.out, hB.grown hg2 (by simp; omega) (by intro k hk; cases hk; omega)⟩

set_option maxHeartbeats 400000 in
theorem specToRadix_any (a : ByteArray) (r : Int) (w : World) (hsa : a.size ≤ maxLen) :
    Calls Tryd.prog 23 #[.string a, .int .i64 r] w fun e w' => AnsR a r e ∧ Below w.heap.size w w' := by
  cases hg : goodB a.data.toList with
  | true =>
    have HG := hideT hg
    have hla : a.size ≤ 600 := by have := good_len hg; simpa using this
    have HA := hideT (good_canon hg)
    cases hr : radOk r with
    | true =>
      obtain ⟨hr1, hr2, hr3⟩ := rad_nat' hr
      have HR := hideT hr1
      have HK := hideT hr
      have HOK : Hid ((goodB a.data.toList && radOk r) = true) := by unfold Hid; rw [hg, hr]; rfl
      clear hr hr1 hg
      go_enter Tryd.func23, Tryd.ntmps23
      go_wp2_with fail
      refine (specGood_any a _ hsa).mono ?_
      rintro e w' ⟨rfl, rfl⟩
      rw [HG.out]
      go_wp2_with fail
      refine (l1Radix_any r _).mono ?_
      rintro e w' ⟨rfl, rfl⟩
      rw [HK.out]
      go_wp2_with fail
      refine (l1ToRadix_any a r.toNat r _ hla HA.out HR.out hr2 hr3).mono ?_
      rintro e w2 ⟨s, rfl, hI, hW2⟩
      have HI : Hid (AnsR a r (.returned (.tuple #[.string s, .bool true]))) := .inl ⟨HOK.out, s, rfl, hI⟩
      clear hI
      go_wp2
      go_ret2
      exact ⟨HI.out, hW2⟩
    | false =>
      have HK := hideT hr
      have HI : Hid (AnsR a r (.returned (.tuple #[.string ⟨#[]⟩, .bool false]))) := .inr ⟨by rw [hr, Bool.and_false], rfl⟩
      clear hr hg
      go_enter Tryd.func23, Tryd.ntmps23
      go_wp2_with fail
      refine (specGood_any a _ hsa).mono ?_
      rintro e w' ⟨rfl, rfl⟩
      rw [HG.out]
      go_wp2_with fail
      refine (l1Radix_any r _).mono ?_
      rintro e w' ⟨rfl, rfl⟩
      rw [HK.out]
      go_wp2
      go_ret2
      exact ⟨HI.out, Below.refl _ _⟩
  | false =>
    have HG := hideT hg
    have HI : Hid (AnsR a r (.returned (.tuple #[.string ⟨#[]⟩, .bool false]))) := .inr ⟨by rw [hg, Bool.false_and], rfl⟩
    clear hg
    go_enter Tryd.func23, Tryd.ntmps23
    go_wp2_with fail
    refine (specGood_any a _ hsa).mono ?_
    rintro e w' ⟨rfl, rfl⟩
    rw [HG.out]
    go_wp2
    go_ret2
    exact ⟨HI.out, Below.refl _ _⟩
end Go.Proofs.YtnjfmjpbfidboaaDoor
