/-
  What strconv.Atoi answers, of any text; and of digits.
-/
import Derived.Test.YtmfpnbmfcoahbaaDoorShelfAtoi
import Derived.Test.YtmfpnbmfcoahbaaDoorPkGood
import Derived.Test.YtmfpnbmfcoahbaaDoorDec
import Derived.Lib.AtoiErrMem
import Derived.Lib.ConvBytes
namespace Go.Proofs.YtmfpnbmfcoahbaaDoor
open Go.RowKit
set_option linter.unusedVariables false

theorem parse_any : ∀ (l : List UInt8) (acc x : Nat), l.all isDig = true → Lib.parseUint10 acc l = .ok x → x = acc * 10 ^ l.length + dval l
  | [], acc, x, _, h => by simp [Lib.parseUint10, dval] at h ⊢; omega
  | c :: m, acc, x, h, hp => by
    simp only [List.all_cons, Bool.and_eq_true] at h
    have hc := h.1
    unfold isDig at hc
    simp only [Bool.and_eq_true, decide_eq_true_eq] at hc
    have e : acc * (10 ^ m.length * 10) + (dv c * 10 ^ m.length + dval m) = (acc * 10 + dv c) * 10 ^ m.length + dval m := by
      rw [Nat.add_mul, Nat.mul_comm (10 ^ m.length) 10, ← Nat.mul_assoc, Nat.add_assoc]
    have hdv : c.toNat - 48 = dv c := rfl
    unfold Lib.parseUint10 at hp
    rw [if_pos hc] at hp
    split at hp
    · cases hp
    · split at hp
      · cases hp
      · rw [hdv] at hp
        rw [parse_any m _ x h.2 hp, dval_cons, List.length_cons, Nat.pow_succ, e]
theorem parse_small : ∀ (l : List UInt8) (acc : Nat), l.all isDig = true → acc * 10 ^ l.length + dval l < 10 ^ 18 → Lib.parseUint10 acc l = .ok (acc * 10 ^ l.length + dval l)
  | [], acc, _, _ => by simp [Lib.parseUint10, dval]
  | c :: m, acc, h, hb => by
    simp only [List.all_cons, Bool.and_eq_true] at h
    have hc := h.1
    unfold isDig at hc
    simp only [Bool.and_eq_true, decide_eq_true_eq] at hc
    rw [dval_cons, List.length_cons, Nat.pow_succ] at hb
    have e : acc * (10 ^ m.length * 10) + (dv c * 10 ^ m.length + dval m) = (acc * 10 + dv c) * 10 ^ m.length + dval m := by
      rw [Nat.add_mul, Nat.mul_comm (10 ^ m.length) 10, ← Nat.mul_assoc, Nat.add_assoc]
    rw [e] at hb
    have hp : 1 ≤ 10 ^ m.length := Nat.one_le_pow _ _ (by omega)
    have h1 : acc * 10 + dv c ≤ (acc * 10 + dv c) * 10 ^ m.length := Nat.le_mul_of_pos_right _ hp
    have hdv : c.toNat - 48 = dv c := rfl
    unfold Lib.parseUint10
    rw [if_pos hc, if_neg (by omega), if_neg (by rw [hdv]; omega), hdv, parse_small m (acc * 10 + dv c) h.2 hb, dval_cons, List.length_cons, Nat.pow_succ, e]
/-- Digits that tell a small number are read as it. -/
theorem atoi_small {l : List UInt8} (hc : canonB l = true) (h : dval l < 10 ^ 18) : Lib.atoiAll l = .ok (dval l : Int) := by
  cases l with
  | nil => simp [canonB] at hc
  | cons c m =>
    have hd := (canon_cons hc).1
    unfold isDig at hd
    simp only [Bool.and_eq_true, decide_eq_true_eq] at hd
    have hp := parse_small (c :: m) 0 (canon_all hc) (by simp only [Nat.zero_mul, Nat.zero_add]; exact h)
    simp only [Nat.zero_mul, Nat.zero_add] at hp
    unfold Lib.atoiAll
    simp only
    rw [if_neg (by omega)]
    unfold Lib.parseMag
    rw [if_neg (by simp), hp]
    simp only
    rw [if_neg (by omega), if_neg (by omega), if_neg (by omega)]
/-- Digits are read as their number, if as any. -/
theorem atoi_any {l : List UInt8} (hc : canonB l = true) {v : Int} (h : Lib.atoiAll l = .ok v) : v = (dval l : Int) := by
  cases l with
  | nil => simp [canonB] at hc
  | cons c m =>
    have hd := (canon_cons hc).1
    unfold isDig at hd
    simp only [Bool.and_eq_true, decide_eq_true_eq] at hd
    unfold Lib.atoiAll at h
    simp only at h
    rw [if_neg (by omega)] at h
    unfold Lib.parseMag at h
    rw [if_neg (by simp)] at h
    cases hp : Lib.parseUint10 0 (c :: m) with
    | ok x =>
      have hx := parse_any (c :: m) 0 x (canon_all hc) hp
      rw [hp] at h
      simp only [Nat.zero_mul, Nat.zero_add] at hx
      simp only at h
      repeat' split at h
      all_goals first | (cases h; done) | (injection h with h; omega)
    | _ => rw [hp] at h; simp at h

/-- The library's two errors lie in their variables. -/
def EV (w : World) : Prop := (∃ ev, w.cell? ⟨0, 0, none⟩ = some ev ∧ (ev = .nilIface ∨ ∃ te pe, ev = .iface te pe)) ∧ (∃ ev, w.cell? ⟨1, 0, none⟩ = some ev ∧ (ev = .nilIface ∨ ∃ te pe, ev = .iface te pe))
theorem cell_lt {w : World} {a : Addr} {v : Value} (h : w.cell? a = some v) : a.block < w.heap.size := World.block_lt_of_cell? w a h
theorem EV.below {w w' : World} (h : EV w) (hB : Below w.heap.size w w') : EV w' := by
  obtain ⟨⟨e1, h1, h2⟩, e3, h3, h4⟩ := h
  exact ⟨⟨e1, (hB.cell (p := ⟨0, 0, none⟩) (cell_lt h1)).trans h1, h2⟩, e3, (hB.cell (p := ⟨1, 0, none⟩) (cell_lt h3)).trans h3, h4⟩

/-- A number of a text: a number and no error, or whatever number and an error. -/
theorem atoiX_any (s : ByteArray) (w : World) (hs : s.size ≤ 1048576) (hE : EV w) :
    Calls Tryd.prog 50 #[.string s] w fun e w' => (∃ (v : Int) (E : Value) (q : Bool), e = .returned (.tuple #[.int .i64 v, E]) ∧ ((q = true ∧ E = .nilIface ∧ Lib.atoiAll s.data.toList = .ok v) ∨ (q = false ∧ (∃ tp p, E = .iface tp p) ∧ ∀ u, Lib.atoiAll s.data.toList ≠ .ok u))) ∧ Below w.heap.size w w' := by
  obtain ⟨⟨e1, h1, h2⟩, e3, h3, h4⟩ := hE
  cases h : Lib.atoiAll s.data.toList with
  | ok v =>
    refine (Tryd.strconv_Atoi_ok s (by omega) v h w).mono ?_
    rintro e w' ⟨rfl, hw⟩
    refine ⟨⟨v, _, true, rfl, .inl ⟨rfl, rfl, rfl⟩⟩, ?_⟩
    rcases hw with rfl | ⟨t, rfl⟩
    · exact Below.refl _ _
    · exact Lib.bytesWorld_below w 5 t
  | «syntax» =>
    refine (Tryd.strconv_Atoi_syntax s (by omega) h e1 w h1 h2).mono ?_
    rintro e w' ⟨N, rfl, _, _, hB⟩
    exact ⟨⟨0, _, false, rfl, .inr ⟨rfl, ⟨_, _, rfl⟩, fun u => by simp⟩⟩, hB⟩
  | range =>
    refine (Tryd.strconv_Atoi_range s (by omega) h e3 w h3 h4).mono ?_
    rintro e w' ⟨N, rfl, _, _, hB⟩
    exact ⟨⟨_, _, false, rfl, .inr ⟨rfl, ⟨_, _, rfl⟩, fun u => by simp⟩⟩, hB⟩
end Go.Proofs.YtmfpnbmfcoahbaaDoor
