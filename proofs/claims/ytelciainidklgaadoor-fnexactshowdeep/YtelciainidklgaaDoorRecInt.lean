/-
  Rows of Int: what the laws' own helpers over them answer.
-/
import Derived.Test.YtelciainidklgaaDoorBaseHeld
import Derived.Test.YtelciainidklgaaDoorRecs
namespace Go.Proofs.YtelciainidklgaaDoor
open Go.RowKit
set_option linter.unusedVariables false
/-- The cell of one. -/
def intL (x : Int) : List Value := [.int .i64 x]
theorem intL_len (x : Int) : (intL x).length = 1 := rfl
theorem intL_one (x : Int) : ∀ u ∈ intL x, u.oneCell' = true := by
  intro u hu
  simp [intL] at hu
  subst hu; rfl
theorem info_int : (Tryd.prog.info? 3).map (fun i => (i.zero, i.size, i.bytes)) = some (some (.int .i64 0), 1, 8) := by kernel_rfl
theorem make_int (n : Nat) (hn : n ≤ 1048576) (w : World) : (Instr.makeSlice 23 (.int .i64 (n : Int)) (.int .i64 (n : Int))).run Tryd.prog w = .ok (.slice (some ⟨w.heap.size, 0, none⟩) n n) (w.alloc (.cells ((List.replicate n (0 : Int)).flatMap intL).toArray 3)) := by
  obtain ⟨i, hi, hzz⟩ := Option.map_eq_some_iff.1 info_int
  simp only [Prod.mk.injEq] at hzz
  obtain ⟨hz, hs, hb⟩ := hzz
  have hr := run_make (P := Tryd.prog) w 23 3 i _ Tryd.underlying23 hi hz .i64 .i64 n n (by omega) (Int.le_refl _) (by rw [hb]; omega) (by omega)
  simp only [Int.toNat_natCast, hs] at hr
  rw [hr, ← made_rec intL 1 intL_len _ (0 : Int) (by rfl) n]
  rfl
set_option maxHeartbeats 1000000 in
set_option maxRecDepth 100000 in
theorem szIntS_any (l : List (Int)) (v : Value) (n : Int) (w : World) (hv : SlR w v intL 1 l) (hn0 : 0 ≤ n) (hn1 : n ≤ 1048576) (hl : l.length ≤ maxLen) :
    Calls Tryd.prog 31 #[v, .int .i64 n] w fun e w' => (∃ r : Int, e = .returned (.int .i64 r) ∧ (r = -1 ∨ (0 ≤ r ∧ r ≤ n ∧ (l.length : Int) ≤ n))) ∧ w' = w := by
  unfold maxLen at hl
  obtain ⟨o, cap, rfl⟩ := hv.len
  clear hv
  by_cases h : n - (l.length : Int) < 0
  · go_enter Tryd.func31, Tryd.ntmps31
    go_wp2
    go_ret
    exact ⟨⟨-1, rfl, .inl rfl⟩, rfl⟩
  · go_enter Tryd.func31, Tryd.ntmps31
    go_wp2
    go_ret
    exact ⟨⟨n - (l.length : Int), rfl, .inr ⟨by omega, by omega, by omega⟩⟩, rfl⟩
theorem size_int : (Tryd.prog.info? 3).map (·.size) = some 1 := by kernel_rfl
set_option maxHeartbeats 1000000 in
set_option maxRecDepth 100000 in
theorem toIntS_any (l : List (Int)) (v : Value) (w : World) (hv : SlR w v intL 1 l) (hl : l.length ≤ 1048576) :
    Calls Tryd.prog 36 #[v] w fun e w' => (∃ b : Nat, e = .returned (slR b l) ∧ w.heap.size ≤ b ∧ RecAt w' b 3 intL l) ∧ Below w.heap.size w w' := by
  have HV := hideT' hv
  have hBn : Below w.heap.size w (w.alloc (.cells ((List.replicate l.length (0 : Int)).flatMap intL).toArray 3)) := (Below.refl _ _).alloc (Nat.le_refl _) _
  have hnew : RecAt (w.alloc (.cells ((List.replicate l.length (0 : Int)).flatMap intL).toArray 3)) w.heap.size 3 intL (List.replicate l.length (0 : Int)) := RowAt.new w _ _
  have HN := hideT' (And.intro hnew hBn)
  clear hnew hBn
  rcases hv with ⟨rfl, rfl⟩ | ⟨A, cap, rfl, hA, hb⟩
  · have hmk : ∀ w, (Instr.makeSlice 23 (.int .i64 0) (.int .i64 0)).run Tryd.prog w = .ok (.slice (some ⟨w.heap.size, 0, none⟩) 0 0) (w.alloc (.cells ((List.replicate 0 (0 : Int)).flatMap intL).toArray 3)) := fun w => make_int 0 (by omega) w
    go_enter Tryd.func36, Tryd.ntmps36
    go_wp2_with fail
    clear hmk
    go_loopg [4] 0 (fun g i wr => i = .int .i64 0 ∧ RecAt wr w.heap.size 3 intL [] ∧ Below w.heap.size w wr)
    case atStart => exact ⟨rfl, HN.out.1, HN.out.2⟩
    case round =>
      obtain ⟨rfl, hD, hW⟩ := hrel
      go_wp2
      go_ret
      exact ⟨⟨w.heap.size, rfl, Nat.le_refl _, hD⟩, hW⟩
  · have hmk := make_int l.length hl
    go_enter Tryd.func36, Tryd.ntmps36
    go_wp2_with fail
    clear hmk
    go_loopg [4] l.length (fun g i wr => ∃ k : Nat, g = l.length - k ∧ k ≤ l.length ∧ i = .int .i64 (k : Int) ∧ RecAt wr w.heap.size 3 intL (l.take k ++ List.replicate (l.length - k) (0 : Int)) ∧ Below w.heap.size w wr)
    case atStart => exact ⟨0, rfl, by omega, rfl, HN.out.1, HN.out.2⟩
    case round =>
      obtain ⟨k, hg, hk, rfl, hD, hW⟩ := hrel
      have hsl := hD.lt
      by_cases hlt : (k : Int) < (l.length : Int)
      · have hk' : k < l.length := by omega
        have hAr : ArgR wr A intL 1 l := HV.out.arg hW
        obtain ⟨d, hd⟩ : ∃ d, d = l.getD k default := ⟨_, rfl⟩
        have HAr : Hid (∀ j v, (intL d)[j]? = some v → wr.cell? ((A.add (k * 1)).add j) = some v) := fun j v hv => hAr k j v hk' (by rw [← hd]; exact hv)
        have HDM := hideT' hd
        clear hd hAr
        have hlen : (l.take k ++ List.replicate (l.length - k) (0 : Int)).length = l.length := by simp; omega
        have HLN := hideT' hlen
        clear hlen
        have hcell : wr.cell? (A.add k) = some (.int .i64 d) := by
          have := HAr.out 0 (.int .i64 d) rfl
          rwa [Addr.add_zero', Nat.mul_one] at this
        have hD2 := hD
        have hW3 := hW
        clear hD
        go_wp2_with (refine store_rec1 rfl 3 _ _ rfl rfl (fun x : Int => .int .i64 x) (fun _ => rfl) size_int w.heap.size k d rfl rfl _ hD2 (by rw [HLN.out]; exact hk') ?_; intro w3 hD3 hg3 hs3)
        go_roundg (l.length - (k + 1))
        case measure => omega
        case rel =>
          refine ⟨k + 1, rfl, by omega, by go_num, ?_, hW3.grown hg3 (by omega) (by intro k hk; injection hk; omega)⟩
          rw [HDM.out, rec_take_set (0 : Int) l k hk'] at hD3
          exact hD3
      · have hkn : k = l.length := by omega
        subst hkn
        have hDl : RecAt wr w.heap.size 3 intL l := by
          have := hD
          rwa [List.take_length, Nat.sub_self, List.replicate_zero, List.append_nil] at this
        clear hD
        go_wp2
        go_ret
        exact ⟨⟨w.heap.size, rfl, Nat.le_refl _, hDl⟩, hW⟩
set_option maxHeartbeats 1000000 in
set_option maxRecDepth 100000 in
theorem eqIntS_any (b c : Nat) (l : List (Int)) (w : World) (hl : l.length ≤ 1048576) (h1 : RecAt w b 3 intL l) (h2 : RecAt w c 3 intL l) :
    Calls Tryd.prog 42 #[slR b l, slR c l] w fun e w' => e = .returned (.bool true) ∧ Below w.heap.size w w' := by
  have H1 := hideT' h1
  have H2 := hideT' h2
  have hb := h1.lt
  have hc := h2.lt
  clear h1 h2
  go_enter Tryd.func42, Tryd.ntmps42
  go_wp2_with fail
  go_loopg [5] l.length (fun g i wr => ∃ k : Nat, g = l.length - k ∧ k ≤ l.length ∧ i = .int .i64 (k : Int) ∧ Below w.heap.size w wr)
  case atStart => exact ⟨0, rfl, by omega, rfl, Below.refl _ _⟩
  case round =>
    obtain ⟨k, hg, hk, rfl, hW⟩ := hrel
    by_cases hlt : (k : Int) < (l.length : Int)
    · have hk' : k < l.length := by omega
      obtain ⟨d, hd⟩ : ∃ d, d = l.getD k default := ⟨_, rfl⟩
      have HDM := hideT' hd
      clear hd
      have hcb : wr.cell? ⟨b, k, none⟩ = some (.int .i64 d) := by
        have := (H1.out.below hW hb).cell intL_len k 0 hk' (by decide)
        rw [← HDM.out] at this
        simpa [intL] using this
      have hcc : wr.cell? ⟨c, k, none⟩ = some (.int .i64 d) := by
        have := (H2.out.below hW hc).cell intL_len k 0 hk' (by decide)
        rw [← HDM.out] at this
        simpa [intL] using this
      go_wp2_with fail
      go_region
      go_wp2
      go_roundg (l.length - (k + 1))
      case measure => omega
      case rel => exact ⟨k + 1, rfl, by omega, by go_num, hW.drew⟩
    · go_wp2
      go_ret
      exact ⟨rfl, hW⟩
end Go.Proofs.YtelciainidklgaaDoor
