/-
  What spec.l1Gcd answers.
-/
import Derived.Test.YtjgpjafndaikcaaDoorSpecDiv
namespace Go.Proofs.YtjgpjafndaikcaaDoor
open Go.RowKit
set_option linter.unusedVariables false

set_option maxHeartbeats 1000000 in
theorem l1Gcd_any (a b : ByteArray) (w : World) (hsa : a.size ≤ 2000) (hsb : b.size ≤ 2000) (ha : canonB a.data.toList = true) (hb : canonB b.data.toList = true) :
    Calls Tryd.prog 35 #[.string a, .string b] w fun e w' => ∃ s : ByteArray, e = .returned (.string s) ∧ canonB s.data.toList = true ∧ dval s.data.toList = Nat.gcd (dval a.data.toList) (dval b.data.toList) ∧ Below w.heap.size w w' := by
  have HA := hideT ha
  have HB := hideT hb
  clear ha hb
  go_enter Tryd.func35, Tryd.ntmps35
  go_wp2
  go_loopg [0, 1] (dval b.data.toList) (fun g x y wr => ∃ (s t : ByteArray), Hid (g = dval t.data.toList) ∧ x = .string s ∧ y = .string t ∧ Hid (canonB s.data.toList = true ∧ canonB t.data.toList = true ∧ Nat.gcd (dval s.data.toList) (dval t.data.toList) = Nat.gcd (dval a.data.toList) (dval b.data.toList)) ∧ s.size ≤ 2000 ∧ t.size ≤ 2000 ∧ Below w.heap.size w wr)
  case atStart => exact ⟨a, b, rfl, rfl, rfl, ⟨HA.out, HB.out, rfl⟩, hsa, hsb, Below.refl _ _⟩
  case round =>
    obtain ⟨s, t, HG, rfl, rfl, HS, hss, hts, hW⟩ := hrel
    by_cases hz : t = ⟨#[48]⟩
    · have HE : Hid (dval s.data.toList = Nat.gcd (dval a.data.toList) (dval b.data.toList)) := by
        unfold Hid
        rw [← HS.out.2.2, hz]
        simp [dval, dv]
      subst hz
      go_wp2
      go_ret
      exact ⟨s, rfl, HS.out.1, HE.out, hW⟩
    · have hz' : (t.toList == [48]) = false := str_ne (fun h => hz (WideShapes.bytes_inj h))
      have HB0 : Hid (dval t.data.toList ≠ 0) := fun e => hz (WideShapes.bytes_inj ((canon_zero HS.out.2.1).1 e))
      clear hz
      go_wp2_with fail
      refine (l1Div_any s t wr hss hts HS.out.1 HS.out.2.1 HB0.out).mono ?_
      rintro e w2 ⟨q, r, rfl, c1, v1, c2, v2, hW2⟩
      have hlt : dval r.data.toList < dval t.data.toList := by rw [v2]; exact Nat.mod_lt _ (Nat.pos_of_ne_zero HB0.out)
      have hrs : r.size ≤ 2000 := by have := canon_le_size HS.out.2.1 c2 (by omega); omega
      have HS2 : Hid (canonB t.data.toList = true ∧ canonB r.data.toList = true ∧ Nat.gcd (dval t.data.toList) (dval r.data.toList) = Nat.gcd (dval a.data.toList) (dval b.data.toList)) := by
        refine ⟨HS.out.2.1, c2, ?_⟩
        rw [← HS.out.2.2, v2]
        exact (Nat.gcd_comm _ _).trans ((Nat.gcd_rec _ _).symm.trans (Nat.gcd_comm _ _))
      have HLT := hideT hlt
      have hW2' : Below w.heap.size w w2 := hW.trans (hW2.mono hW.size)
      clear c1 v1 c2 v2 hlt hW hW2
      go_wp2
      go_roundg (dval r.data.toList)
      case measure => rw [HG.out]; exact HLT.out
      case rel => exact ⟨t, r, rfl, rfl, rfl, HS2, hts, hrs, hW2'⟩

theorem gcd_lt {x y : Nat} (k : Nat) (hx : x < 10 ^ k) (hy : y < 10 ^ k) : Nat.gcd x y < 10 ^ k := by
  by_cases h : x = 0
  · subst h; rw [Nat.gcd_zero_left]; exact hy
  · exact Nat.lt_of_le_of_lt (Nat.gcd_le_left y (Nat.pos_of_ne_zero h)) hx

theorem lt_tells {s : ByteArray} {n : Nat} (hc : canonB s.data.toList = true) (hv : dval s.data.toList = n) (hn : n < 10 ^ 600) : Tells n (.returned (.tuple #[.string s, .bool true])) :=
  ⟨s, by rw [decide_eq_true hn], fun _ => ⟨hc, hv⟩, fun h => absurd hn h⟩

end Go.Proofs.YtjgpjafndaikcaaDoor
