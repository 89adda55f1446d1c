/-
  The cursor that the laws' draws read choices by (spec.l1Cur): what next, pick, one, among, of answer.
-/
import Derived.Test.YtmfpnbmfcoahbaaDoorBaseRow
import Derived.Test.YtmfpnbmfcoahbaaDoorBaseHeld
import Derived.Test.YtmfpnbmfcoahbaaDoorRecs
import Derived.WalkMore
import Derived.RegionTactic
import Derived.Deep.AppendLies
import Derived.Deep.QuietTactic
import Derived.BigQuiet
import Derived.Maps.Range
import Derived.Maps.AppendAt
import Derived.Laws.Bits64b
namespace Go.Proofs.YtmfpnbmfcoahbaaDoor
open Go.RowKit
set_option linter.unusedVariables false

def u8L (x : Int) : List Value := [.int .u8 x]
theorem u8L_len (x : Int) : (u8L x).length = 1 := rfl
/-- Bytes that came in. -/
def Code (w : World) (v : Value) (l : List Int) : Prop := SlR w v u8L 1 l ∧ (∀ i, i < l.length → 0 ≤ l.getD i default ∧ l.getD i default ≤ 255) ∧ l.length ≤ maxLen
/-- A cursor that has read N bytes at most. -/
def CurAt (w : World) (b : Nat) (v : Value) (N : Nat) : Prop := ∃ (k : Nat) (s : Int), k ≤ N ∧ (0 ≤ s ∧ s ≤ 18446744073709551615) ∧ RowAt w b 41 #[v, .int .i64 (k : Int), .int .u64 s]
theorem CurAt.lt {w : World} {b : Nat} {v : Value} {N : Nat} (h : CurAt w b v N) : b < w.heap.size := by
  obtain ⟨k, s, _, _, h⟩ := h
  exact RowAt.lt h
theorem CurAt.mono {w : World} {b : Nat} {v : Value} {N M : Nat} (h : CurAt w b v N) (hm : N ≤ M) : CurAt w b v M := by
  obtain ⟨k, s, h1, h2, h⟩ := h
  exact ⟨k, s, by omega, h2, h⟩
theorem CurAt.grown {w w' : World} {b : Nat} {v : Value} {N : Nat} {r : Option Nat} (h : CurAt w b v N) (hg : w.grownBy w' r) (hr : some b ≠ r) : CurAt w' b v N := by
  obtain ⟨k, s, h1, h2, h⟩ := h
  exact ⟨k, s, h1, h2, h.grown hg hr⟩
/-- The bytes lie in memory that the cursor's own block is not. -/
def CodeAt (w : World) (b : Nat) (v : Value) (l : List Int) : Prop := Code w v l ∧ ∀ (a : Addr) (n c : Nat), v = .slice (some a) n c → 0 < l.length → a.block ≠ b
theorem CodeAt.grown {w w' : World} {b : Nat} {v : Value} {l : List Int} (h : CodeAt w b v l) (hg : w.grownBy w' (some b)) : CodeAt w' b v l := by
  obtain ⟨⟨h1, h2, h3⟩, h4⟩ := h
  refine ⟨⟨?_, h2, h3⟩, h4⟩
  rcases h1 with h | ⟨a, cap, rfl, h, hb⟩
  · exact .inl h
  · refine .inr ⟨a, cap, rfl, fun i j u hi hv => ?_, fun hl => Nat.lt_of_lt_of_le (hb hl) hg.size⟩
    have hl : 0 < l.length := by omega
    have hbl : ((a.add (i * 1)).add j).block = a.block := by unfold Addr.add; split <;> split <;> rfl
    rw [hg.cell_far ((a.add (i * 1)).add j) (by rw [hbl]; exact hb hl) (by rw [hbl]; intro e; exact h4 a _ _ rfl hl (by simpa using e))]
    exact h i j u hi hv
theorem low_byte (y : Int) : ∃ x : Nat, wrap64 (bits .and .u64 (IntKind.u64.wrap y / 1099511627776) 255) = (x : Int) ∧ x ≤ 255 := by
  obtain ⟨a, ha⟩ : ∃ a : Nat, IntKind.u64.wrap y / 1099511627776 = (a : Int) ∧ a < 18446744073709551616 := ⟨(IntKind.u64.wrap y / 1099511627776).toNat, by rw [IntKind.wrap_u64]; omega⟩
  rw [ha.1, show (255 : Int) = ((255 : Nat) : Int) from rfl, bits_and_u64_nat a 255 ha.2 (by decide)]
  have : a &&& 255 ≤ 255 := Nat.and_le_right
  exact ⟨a &&& 255, by unfold wrap64; omega, this⟩
theorem size_u64c : (Tryd.prog.info? 39).map (·.size) = some 1 := by kernel_rfl
theorem size_i64c : (Tryd.prog.info? 3).map (·.size) = some 1 := by kernel_rfl

set_option maxHeartbeats 2000000 in
set_option maxRecDepth 100000 in
theorem next_any (b : Nat) (v : Value) (l : List Int) (N : Nat) (w : World) (hc : CurAt w b v N) (hC : CodeAt w b v l) (hN : N ≤ 1099511627776) :
    Calls Tryd.prog 69 #[.pointer (some ⟨b, 0, none⟩)] w fun e w' => (∃ x : Nat, e = .returned (.int .i64 (x : Int)) ∧ x ≤ 255) ∧ CurAt w' b v (N + 1) ∧ w.grownBy w' (some b) := by
  obtain ⟨k, s, hk, hs, hR⟩ := hc
  have HC := hideT' hC
  obtain ⟨o, cap, rfl⟩ := hC.1.1.len
  have hLn : l.length ≤ maxLen := hC.1.2.2
  unfold maxLen at hLn
  have c1 : w.cell? ⟨b, 1, none⟩ = some (.int .i64 (k : Int)) := by rw [cell_of_row w b 1 _ _ _ hR]; rfl
  have c2 : w.cell? ⟨b, 2, none⟩ = some (.int .u64 s) := by rw [cell_of_row w b 2 _ _ _ hR]; rfl
  have c0 : w.cell? ⟨b, 0, none⟩ = some (.slice o l.length cap) := by rw [cell_of_row w b 0 _ _ _ hR]; rfl
  have f1 : w.frozen? ⟨b, 1, none⟩ = false := frozen_of_row w b _ _ _ hR
  have f2 : w.frozen? ⟨b, 2, none⟩ = false := frozen_of_row w b _ _ _ hR
  have HR := hideT' hR
  have HEND : Hid (∀ (p q : Nat) (y z : Int), CurAt ((((w.drewN p).setCell ⟨b, 1, none⟩ (.int .i64 ((k : Int) + 1))).setCell ⟨b, 2, none⟩ (.int .u64 (IntKind.u64.wrap (y + z)))).drewN q) b (.slice o l.length cap) (N + 1) ∧ w.grownBy ((((w.drewN p).setCell ⟨b, 1, none⟩ (.int .i64 ((k : Int) + 1))).setCell ⟨b, 2, none⟩ (.int .u64 (IntKind.u64.wrap (y + z)))).drewN q) (some b)) := by
    intro p q y z
    have r0 : RowAt (w.drewN p) b 41 #[.slice o l.length cap, .int .i64 (k : Int), .int .u64 s] := hR
    have r1 := heap_setCell_same (w.drewN p) b 1 _ _ (.int .i64 ((k : Int) + 1)) r0
    have r2 := heap_setCell_same _ b 2 _ _ (.int .u64 (IntKind.u64.wrap (y + z))) r1
    have hg := (grown_set (w.drewN p) b 1 (.int .i64 ((k : Int) + 1))).trans (grown_set _ b 2 (.int .u64 (IntKind.u64.wrap (y + z))))
    refine ⟨⟨k + 1, IntKind.u64.wrap (y + z), by omega, by rw [IntKind.wrap_u64]; omega, ?_⟩, ⟨hg.os, hg.tape, hg.output, hg.size, hg.block⟩⟩
    have r3 : RowAt ((((w.drewN p).setCell ⟨b, 1, none⟩ (.int .i64 ((k : Int) + 1))).setCell ⟨b, 2, none⟩ (.int .u64 (IntKind.u64.wrap (y + z)))).drewN q) b 41 #[.slice o l.length cap, .int .i64 ((k : Int) + 1), .int .u64 (IntKind.u64.wrap (y + z))] := r2
    exact r3
  have HS := hideT' (And.intro hk hs)
  have hw1 : IntKind.i64.wrap ((k : Int) + 1) = (k : Int) + 1 := by rw [IntKind.wrap_i64]; omega
  clear hC hR hs
  by_cases hlt : (k : Int) < (l.length : Int)
  · have hk' : k < l.length := by omega
    obtain ⟨x, hx⟩ : ∃ x : Nat, l.getD k default = (x : Int) ∧ x ≤ 255 := ⟨(l.getD k default).toNat, by have := HC.out.1.2.1 k hk'; omega⟩
    obtain ⟨A, rfl, hcell⟩ : ∃ A, o = some A ∧ w.cell? (A.add k) = some (.int .u8 (x : Int)) := by
      rcases HC.out.1.1 with ⟨h1, h2⟩ | ⟨a, cp, h1, h2, _⟩
      · rw [h2] at hk'; simp at hk'
      · cases h1
        refine ⟨a, rfl, ?_⟩
        have := h2 k 0 (.int .u8 (x : Int)) hk' (by rw [hx.1]; rfl)
        have e : (a.add k).add 0 = a.add k := by simp [Addr.add]
        rw [Nat.mul_one, e] at this
        exact this
    have hx255 := hx.2
    clear hx
    go_enter Tryd.func69, Tryd.ntmps69
    go_wp2
    go_quiet (fail)
    go_wp2
    go_quiet (fail)
    go_wp2
    go_quiet (fail)
    go_wp2
    go_ret
    exact ⟨⟨x, rfl, hx255⟩, HEND.out _ _ _ _⟩
  · go_enter Tryd.func69, Tryd.ntmps69
    go_wp2
    go_quiet (fail)
    go_wp2
    go_quiet (fail)
    go_wp2
    obtain ⟨x, hx, hx2⟩ := low_byte (IntKind.u64.wrap (IntKind.u64.wrap (s * 6364136223846793005)) + 1442695040888963407)
    rw [hx]
    clear hx
    go_ret
    exact ⟨⟨x, rfl, hx2⟩, HEND.out _ _ _ _⟩

set_option maxHeartbeats 1000000 in
set_option maxRecDepth 100000 in
theorem pick_any (n : Nat) (h1 : 1 ≤ n) (h2 : n ≤ 65536) (b : Nat) (v : Value) (l : List Int) (N : Nat) (w : World) (hc : CurAt w b v N) (hC : CodeAt w b v l) (hN : N + 1 ≤ 1099511627776) :
    Calls Tryd.prog 34 #[.pointer (some ⟨b, 0, none⟩), .int .i64 (n : Int)] w fun e w' => (∃ x : Nat, e = .returned (.int .i64 (x : Int)) ∧ x < n) ∧ CurAt w' b v (N + 2) ∧ w.grownBy w' (some b) := by
  by_cases hn1 : (n : Int) ≤ 1
  · have HC := hideT' (hc.mono (show N ≤ N + 2 by omega))
    clear hc hC
    go_enter Tryd.func34, Tryd.ntmps34
    go_wp2
    go_ret
    exact ⟨⟨0, rfl, by omega⟩, HC.out, ⟨rfl, rfl, rfl, Nat.le_refl _, fun _ _ _ => rfl⟩⟩
  have HC := hideT' (And.intro hc hC)
  have hn0 : ¬ (n : Int) = 0 := by omega
  clear hc hC
  by_cases hn2 : (200 : Int) < (n : Int)
  · go_enter Tryd.func34, Tryd.ntmps34
    go_wp2_with fail
    refine (next_any b v l N w HC.out.1 HC.out.2 (by omega)).mono ?_
    rintro e w1 ⟨⟨x, rfl, hx⟩, hc1, hg1⟩
    have HC1 := hideT' (And.intro hc1 (And.intro (HC.out.2.grown hg1) hg1))
    clear hc1 hg1
    go_wp2_with fail
    refine (next_any b v l (N + 1) w1 HC1.out.1 HC1.out.2.1 (by omega)).mono ?_
    rintro e w2 ⟨⟨y, rfl, hy⟩, hc2, hg2⟩
    have HC2 := hideT' (And.intro hc2 (HC1.out.2.2.trans hg2))
    clear hc2 hg2
    have hw : IntKind.i64.wrap ((x : Int) * 256) = (x : Int) * 256 := by rw [IntKind.wrap_i64]; omega
    have hw2 : IntKind.i64.wrap ((x : Int) * 256 + (y : Int)) = (x : Int) * 256 + (y : Int) := by rw [IntKind.wrap_i64]; omega
    go_wp2
    obtain ⟨r, hr, hr2⟩ : ∃ r : Nat, ((x : Int) * 256 + (y : Int)) % (n : Int) = (r : Int) ∧ r < n := ⟨(x * 256 + y) % n, by simp, Nat.mod_lt _ (by omega)⟩
    rw [hr]
    clear hr
    go_ret
    exact ⟨⟨r, rfl, hr2⟩, HC2.out.1, HC2.out.2⟩
  · go_enter Tryd.func34, Tryd.ntmps34
    go_wp2_with fail
    refine (next_any b v l N w HC.out.1 HC.out.2 (by omega)).mono ?_
    rintro e w1 ⟨⟨x, rfl, hx⟩, hc1, hg1⟩
    have HC1 := hideT' (And.intro (hc1.mono (show N + 1 ≤ N + 2 by omega)) hg1)
    clear hc1 hg1
    go_wp2
    obtain ⟨r, hr, hr2⟩ : ∃ r : Nat, (x : Int) % (n : Int) = (r : Int) ∧ r < n := ⟨x % n, by simp, Nat.mod_lt _ (by omega)⟩
    rw [hr]
    clear hr
    go_ret
    exact ⟨⟨r, rfl, hr2⟩, HC1.out.1, HC1.out.2⟩

set_option maxHeartbeats 1000000 in
set_option maxRecDepth 100000 in
theorem one_any (n : Nat) (h1 : 1 ≤ n) (h2 : n ≤ 65536) (b : Nat) (v : Value) (l : List Int) (N : Nat) (w : World) (hc : CurAt w b v N) (hC : CodeAt w b v l) (hN : N + 1 ≤ 1099511627776) :
    Calls Tryd.prog 21 #[.pointer (some ⟨b, 0, none⟩), .int .i64 (n : Int)] w fun e w' => (∃ q : Bool, e = .returned (.bool q)) ∧ CurAt w' b v (N + 2) ∧ w.grownBy w' (some b) := by
  have HC := hideT' (And.intro hc hC)
  clear hc hC
  go_enter Tryd.func21, Tryd.ntmps21
  go_wp2_with fail
  refine (pick_any n h1 h2 b v l N w HC.out.1 HC.out.2 hN).mono ?_
  rintro e w1 ⟨⟨x, rfl, hx⟩, hc1, hg1⟩
  have HC1 := hideT' (And.intro hc1 hg1)
  clear hc1 hg1
  go_wp2
  go_ret
  exact ⟨⟨_, rfl⟩, HC1.out.1, HC1.out.2⟩

/-- Some texts in a row, none of more than m bytes. -/
def Texts (w : World) (q n m : Nat) : Prop := ∀ i, i < n → ∃ s : ByteArray, w.cell? ⟨q, i, none⟩ = some (.string s) ∧ s.size ≤ m
set_option maxHeartbeats 1000000 in
set_option maxRecDepth 100000 in
theorem of_any (q n m c : Nat) (h1 : 1 ≤ n) (h2 : n ≤ 65536) (b : Nat) (v : Value) (l : List Int) (N : Nat) (w : World) (hc : CurAt w b v N) (hC : CodeAt w b v l) (hN : N + 1 ≤ 1099511627776) (hT : Texts w q n m) (hq : q ≠ b) (hql : q < w.heap.size) :
    Calls Tryd.prog 49 #[.pointer (some ⟨b, 0, none⟩), .slice (some ⟨q, 0, none⟩) n c] w fun e w' => (∃ s : ByteArray, e = .returned (.string s) ∧ s.size ≤ m) ∧ CurAt w' b v (N + 2) ∧ w.grownBy w' (some b) := by
  have HC := hideT' (And.intro hc (And.intro hC hT))
  clear hc hC hT
  go_enter Tryd.func49, Tryd.ntmps49
  go_wp2_with fail
  refine (pick_any n h1 h2 b v l N w HC.out.1 HC.out.2.1 hN).mono ?_
  rintro e w1 ⟨⟨x, rfl, hx⟩, hc1, hg1⟩
  obtain ⟨s, hs, hs2⟩ := HC.out.2.2 x hx
  have hcell : w1.cell? ⟨q, x, none⟩ = some (.string s) := by rw [hg1.cell_far ⟨q, x, none⟩ hql (by intro e; exact hq (by simpa using e))]; exact hs
  have hxl : (x : Int) < (n : Int) := by omega
  have HC1 := hideT' (And.intro hc1 hg1)
  clear hc1 hg1 hs
  go_wp2
  go_ret
  exact ⟨⟨s, rfl, hs2⟩, HC1.out.1, HC1.out.2⟩
end Go.Proofs.YtmfpnbmfcoahbaaDoor
