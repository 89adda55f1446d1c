/-
  What the laws' own marks of texts are.
-/
import Derived.Shelf.Abstract
import Derived.Test.YtkcnadlencajaaaDoorRecs2
namespace Go.Proofs.YtkcnadlencajaaaDoor
open Go.RowKit
set_option linter.unusedVariables false

theorem dec_step (q : Nat) (h : ¬ q < 10) : Lib.decDigits q = Lib.decDigits (q / 10) ++ [db (q % 10)] := by
  rw [Lib.decDigits, dif_neg h]; rfl
theorem dec_one (q : Nat) (h : q < 10) : Lib.decDigits q = [db q] := by
  rw [Lib.decDigits, dif_pos h]; rfl

set_option maxHeartbeats 1000000 in
set_option maxRecDepth 100000 in
theorem markText_any (k : Int) (h0 : 0 < k) (h1 : k ≤ 1099511627776) (w : World) :
    Calls Tryd.prog 73 #[.int .i64 k] w fun e w' => e = .returned (.string (markT k)) ∧ Below w.heap.size w w' := by
  obtain ⟨K, rfl⟩ := Int.eq_ofNat_of_zero_le (Int.le_of_lt h0)
  obtain ⟨x, hx⟩ : ∃ x : Int, x = (K : Int) := ⟨_, rfl⟩
  rw [← hx] at h0 h1 ⊢
  have HX := hideT' hx
  clear hx
  go_enter Tryd.func73, Tryd.ntmps73
  go_wp2_with fail
  go_loopg [0, 3] K (fun g y o wr => ∃ (q : Int) (t : List UInt8), y = .int .i64 q ∧ o = .string ⟨t.toArray⟩ ∧ 0 ≤ q ∧ q ≤ 1099511627776 ∧ Hid (q = (g : Int) ∧ t.length ≤ 20 ∧ (g = 0 → t = Lib.decDigits K) ∧ (0 < g → Lib.decDigits K = Lib.decDigits g ++ t)) ∧ Below w.heap.size w wr)
  case atStart =>
    refine ⟨x, [], by go_num, rfl, by omega, h1, ⟨HX.out, by simp, fun h => ?_, fun _ => by simp⟩, Below.refl _ _⟩
    have := HX.out; omega
  case round =>
    obtain ⟨q, t, rfl, rfl, hq0, hq1, HQ, hW⟩ := hrel
    by_cases hz : q = 0
    · subst hz
      have HT : Hid (t = Lib.decDigits K) := HQ.out.2.2.1 (by have := HQ.out.1; omega)
      have htl := HQ.out.2.1
      have hsz : ¬ 9223372036854775807 < (⟨#[109]⟩ : ByteArray).size + (⟨t.toArray⟩ : ByteArray).size := by
        have : (⟨t.toArray⟩ : ByteArray).size = t.length := by simp [ByteArray.size]
        rw [this]; show ¬ _ < 1 + t.length; omega
      clear htl
      go_wp2
      go_ret
      refine ⟨?_, hW⟩
      unfold markT
      rw [HX.out, Int.toNat_natCast, ← HT.out]
      show Ending.returned (.string ((⟨#[109]⟩ : ByteArray) ++ ⟨t.toArray⟩)) = _
      congr 2
    · have hqp : 0 < q := by omega
      obtain ⟨d, hd⟩ : ∃ d : Nat, d = q.toNat % 10 := ⟨_, rfl⟩
      have hd10 : d < 10 := by omega
      have htm : q.tmod 10 = (d : Int) := by rw [Int.tmod_eq_emod_of_nonneg hq0]; omega
      obtain ⟨r, hr⟩ : ∃ r : Int, r = ((q.toNat / 10 : Nat) : Int) := ⟨_, rfl⟩
      have htd : q.tdiv 10 = r := by rw [Int.tdiv_eq_ediv_of_nonneg hq0]; omega
      have hr0 : 0 ≤ r := by omega
      have hrq : r < q := by omega
      have hw1 : IntKind.i64.wrap r = r := by rw [IntKind.wrap_i64]; omega
      have hw2 : IntKind.i64.wrap (48 + (d : Int)) = 48 + (d : Int) := by rw [IntKind.wrap_i64]; omega
      have hw3 : IntKind.u8.wrap (48 + (d : Int)) = 48 + (d : Int) := by
        have : IntKind.u8.wrap (48 + (d : Int)) = (48 + (d : Int)) % 256 := by simp [IntKind.wrap, IntKind.signed, IntKind.bits]
        rw [this]; omega
      have hcv := conv_new wr d hd10
      have htl := HQ.out.2.1
      have hsz : ¬ 9223372036854775807 < (⟨#[db d]⟩ : ByteArray).size + (⟨t.toArray⟩ : ByteArray).size := by
        have : (⟨t.toArray⟩ : ByteArray).size = t.length := by simp [ByteArray.size]
        rw [this]; show ¬ _ < 1 + t.length; omega
      have HD : Hid (d = q.toNat % 10 ∧ r = ((q.toNat / 10 : Nat) : Int)) := ⟨hd, hr⟩
      have hW2 := hW.alloc hW.size (.cells #[.int .u8 (48 + (d : Int))] 5)
      clear hd hr htl
      go_wp2
      go_roundg r.toNat
      case measure => have := HQ.out.1; omega
      case rel =>
        obtain ⟨e1, e2, e3, e4⟩ := HQ.out
        obtain ⟨e5, e6⟩ := HD.out
        refine ⟨r, db d :: t, by go_num, ?_, hr0, by omega, ⟨by omega, ?_, fun h => ?_, fun h => ?_⟩, hW2⟩
        · show Value.string ((⟨#[db d]⟩ : ByteArray) ++ ⟨t.toArray⟩) = _
          congr 1
        · have h5 := e4 (by omega)
          have h6 := (canon_len_le (dec_canon K).1 20 (by omega)).2 (by rw [(dec_canon K).2]; have := HX.out; omega)
          rw [h5, List.length_append] at h6
          have h7 : 0 < (Lib.decDigits gk).length := by
            by_cases hh : gk < 10
            · rw [dec_one gk hh]; simp
            · rw [dec_step gk hh]; simp
          simp only [List.length_cons]
          omega
        · have h5 := e4 (by omega)
          have hh : gk < 10 := by omega
          rw [dec_one gk hh] at h5
          have : d = gk := by omega
          rw [h5, this]; rfl
        · have h5 := e4 (by omega)
          have hh : ¬ gk < 10 := by omega
          rw [dec_step gk hh] at h5
          have hdd : d = gk % 10 := by omega
          have hrr : r.toNat = gk / 10 := by omega
          rw [h5, hdd, hrr, List.append_assoc]; rfl
theorem run_loadS {o : Oper} {a : Act} {w : World} {x : Operand} {v : Value} {A : Addr} (ho : o.op = .load 9 x) (hx : a.eval x = .pointer (some A)) (hc : w.cell? A = some v) :
    (execOp a.eval o).run Tryd.prog w = .ok (.value v) w := by
  have ha : ∀ w, (isAgg 9).run Tryd.prog w = .ok false w := run_isAgg_plain Tryd.underlying9 rfl
  unfold execOp
  simp only [ho, hx]
  go_simp
theorem ownR_below {w w' : World} {B c n : Nat} {T : TypeId} {v : Value} {xs : List Value} (h : w.ownsRow B T c v n xs) (hB : Below w.heap.size w w') : w'.ownsRow B T c v n xs := by
  refine ⟨h.1, ?_⟩
  rcases h.2 with h1 | ⟨g, cap, cur, h1, h2, h3, h4⟩
  · exact .inl h1
  · have hlt : g < w.heap.size := (Array.getElem?_eq_some_iff.1 h3).1
    exact .inr ⟨g, cap, cur, h1, h2, by rw [hB.block g (by omega)]; exact h3, h4⟩
end Go.Proofs.YtkcnadlencajaaaDoor
