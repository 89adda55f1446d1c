/-
  Rows of String: what the laws' own helpers over them answer.
-/
import Derived.Test.YthbnacikomimfaaDoorBaseHeld
import Derived.Test.YthbnacikomimfaaDoorRecs
namespace Go.Proofs.YthbnacikomimfaaDoor
open Go.RowKit
set_option linter.unusedVariables false
/-- The cell of one. -/
def stringL (x : ByteArray) : List Value := [.string x]
theorem stringL_len (x : ByteArray) : (stringL x).length = 1 := rfl
theorem stringL_one (x : ByteArray) : ∀ u ∈ stringL x, u.oneCell' = true := by
  intro u hu
  simp [stringL] at hu
  subst hu; rfl
theorem info_string : (Tryd.prog.info? 9).map (fun i => (i.zero, i.size, i.bytes)) = some (some (.string ⟨#[]⟩), 1, 16) := by kernel_rfl
theorem make_string (n : Nat) (hn : n ≤ 1048576) (w : World) : (Instr.makeSlice 25 (.int .i64 (n : Int)) (.int .i64 (n : Int))).run Tryd.prog w = .ok (.slice (some ⟨w.heap.size, 0, none⟩) n n) (w.alloc (.cells ((List.replicate n (⟨#[]⟩ : ByteArray)).flatMap stringL).toArray 9)) := by
  obtain ⟨i, hi, hzz⟩ := Option.map_eq_some_iff.1 info_string
  simp only [Prod.mk.injEq] at hzz
  obtain ⟨hz, hs, hb⟩ := hzz
  have hr := run_make (P := Tryd.prog) w 25 9 i _ Tryd.underlying25 hi hz .i64 .i64 n n (by omega) (Int.le_refl _) (by rw [hb]; omega) (by omega)
  simp only [Int.toNat_natCast, hs] at hr
  rw [hr, ← made_rec stringL 1 stringL_len _ (⟨#[]⟩ : ByteArray) (by rfl) n]
  rfl
set_option maxHeartbeats 1000000 in
set_option maxRecDepth 100000 in
theorem szStringS_any (l : List ByteArray) (v : Value) (n : Int) (w : World) (hv : SlR w v stringL 1 l) (hs : ∀ i, i < l.length → (l.getD i default).size ≤ maxLen) (hn0 : 0 ≤ n) (hn1 : n ≤ 1048576) (hl : l.length ≤ maxLen) :
    Calls Tryd.prog 8 #[v, .int .i64 n] w fun e w' => (∃ r : Int, e = .returned (.int .i64 r) ∧ (r = -1 ∨ (0 ≤ r ∧ r ≤ n ∧ (l.length : Int) ≤ n ∧ ∀ i, i < l.length → ((l.getD i default).size : Int) ≤ n))) ∧ w' = w := by
  unfold maxLen at hl
  have HS := hideT' hs
  have HV := hideT' hv
  clear hs
  rcases hv with ⟨rfl, rfl⟩ | ⟨A, cap, rfl, hA, hb⟩
  · have h1 : ¬ n < 0 := by omega
    go_enter Tryd.func8, Tryd.ntmps8
    go_wp2_with fail
    go_loopg [1, 5] 0 (fun g x i wr => x = .int .i64 n ∧ i = .int .i64 0 ∧ wr = w)
    case atStart => exact ⟨by go_num, rfl, rfl⟩
    case round =>
      obtain ⟨rfl, rfl, rfl⟩ := hrel
      go_wp2
      go_ret
      exact ⟨⟨n, rfl, .inr ⟨hn0, by omega, by simpa using hn0, fun i hi => by simp at hi⟩⟩, rfl⟩
  · by_cases h : n - (l.length : Int) < 0
    · go_enter Tryd.func8, Tryd.ntmps8
      go_wp2
      go_ret
      exact ⟨⟨-1, rfl, .inl rfl⟩, rfl⟩
    · go_enter Tryd.func8, Tryd.ntmps8
      go_wp2_with fail
      go_loopg [1, 5] l.length (fun g x i wr => ∃ (m : Int) (k : Nat), g = l.length - k ∧ k ≤ l.length ∧ x = .int .i64 m ∧ 0 ≤ m ∧ m ≤ n ∧ i = .int .i64 (k : Int) ∧ Hid (∀ j, j < k → ((l.getD j default).size : Int) ≤ n) ∧ wr = w)
      case atStart => exact ⟨n - (l.length : Int), 0, rfl, by omega, by go_num, by omega, by omega, rfl, fun j hj => by omega, rfl⟩
      case round =>
        obtain ⟨m, k, hg, hk, rfl, hm0, hm1, rfl, HZ, rfl⟩ := hrel
        by_cases hlt : (k : Int) < (l.length : Int)
        · have hk' : k < l.length := by omega
          have hAr : ArgR wr A stringL 1 l := hA
          have hcell : wr.cell? (A.add (k * 1)) = some (.string (l.getD k default)) := by
            have := hAr k 0 (.string (l.getD k default)) hk' rfl
            rwa [Addr.add_zero'] at this
          rw [Nat.mul_one] at hcell
          obtain ⟨t, ht⟩ : ∃ t, t = l.getD k default := ⟨_, rfl⟩
          rw [← ht] at hcell
          have HTT := hideT' ht
          have hts : t.size ≤ maxLen := by rw [ht]; exact HS.out k hk'
          unfold maxLen at hts
          clear ht hAr
          by_cases hr : m - (t.size : Int) < 0
          · go_wp2
            go_ret
            exact ⟨⟨-1, rfl, .inl rfl⟩, rfl⟩
          · have HZ2 : Hid (∀ j, j < k + 1 → ((l.getD j default).size : Int) ≤ n) := fun j hj => by
              by_cases e : j = k
              · subst e; rw [← HTT.out]; omega
              · exact HZ.out j (by omega)
            go_wp2
            go_roundg (l.length - (k + 1))
            case measure => omega
            case rel => exact ⟨m - (t.size : Int), k + 1, rfl, by omega, rfl, by omega, by omega, by go_num, HZ2, rfl⟩
        · go_wp2
          go_ret
          exact ⟨⟨m, rfl, .inr ⟨hm0, hm1, by omega, fun i hi => HZ.out i (by omega)⟩⟩, rfl⟩
theorem size_string : (Tryd.prog.info? 9).map (·.size) = some 1 := by kernel_rfl
set_option maxHeartbeats 1000000 in
set_option maxRecDepth 100000 in
theorem toStringS_any (l : List (ByteArray)) (v : Value) (w : World) (hv : SlR w v stringL 1 l) (hl : l.length ≤ 1048576) :
    Calls Tryd.prog 10 #[v] w fun e w' => (∃ b : Nat, e = .returned (slR b l) ∧ w.heap.size ≤ b ∧ RecAt w' b 9 stringL l) ∧ Below w.heap.size w w' := by
  have HV := hideT' hv
  have hBn : Below w.heap.size w (w.alloc (.cells ((List.replicate l.length (⟨#[]⟩ : ByteArray)).flatMap stringL).toArray 9)) := (Below.refl _ _).alloc (Nat.le_refl _) _
  have hnew : RecAt (w.alloc (.cells ((List.replicate l.length (⟨#[]⟩ : ByteArray)).flatMap stringL).toArray 9)) w.heap.size 9 stringL (List.replicate l.length (⟨#[]⟩ : ByteArray)) := RowAt.new w _ _
  have HN := hideT' (And.intro hnew hBn)
  clear hnew hBn
  rcases hv with ⟨rfl, rfl⟩ | ⟨A, cap, rfl, hA, hb⟩
  · have hmk : ∀ w, (Instr.makeSlice 25 (.int .i64 0) (.int .i64 0)).run Tryd.prog w = .ok (.slice (some ⟨w.heap.size, 0, none⟩) 0 0) (w.alloc (.cells ((List.replicate 0 (⟨#[]⟩ : ByteArray)).flatMap stringL).toArray 9)) := fun w => make_string 0 (by omega) w
    go_enter Tryd.func10, Tryd.ntmps10
    go_wp2_with fail
    clear hmk
    go_loopg [4] 0 (fun g i wr => i = .int .i64 0 ∧ RecAt wr w.heap.size 9 stringL [] ∧ Below w.heap.size w wr)
    case atStart => exact ⟨rfl, HN.out.1, HN.out.2⟩
    case round =>
      obtain ⟨rfl, hD, hW⟩ := hrel
      go_wp2
      go_ret
      exact ⟨⟨w.heap.size, rfl, Nat.le_refl _, hD⟩, hW⟩
  · have hmk := make_string l.length hl
    go_enter Tryd.func10, Tryd.ntmps10
    go_wp2_with fail
    clear hmk
    go_loopg [4] l.length (fun g i wr => ∃ k : Nat, g = l.length - k ∧ k ≤ l.length ∧ i = .int .i64 (k : Int) ∧ RecAt wr w.heap.size 9 stringL (l.take k ++ List.replicate (l.length - k) (⟨#[]⟩ : ByteArray)) ∧ Below w.heap.size w wr)
    case atStart => exact ⟨0, rfl, by omega, rfl, HN.out.1, HN.out.2⟩
    case round =>
      obtain ⟨k, hg, hk, rfl, hD, hW⟩ := hrel
      have hsl := hD.lt
      by_cases hlt : (k : Int) < (l.length : Int)
      · have hk' : k < l.length := by omega
        have hAr : ArgR wr A stringL 1 l := HV.out.arg hW
        obtain ⟨d, hd⟩ : ∃ d, d = l.getD k default := ⟨_, rfl⟩
        have HAr : Hid (∀ j v, (stringL d)[j]? = some v → wr.cell? ((A.add (k * 1)).add j) = some v) := fun j v hv => hAr k j v hk' (by rw [← hd]; exact hv)
        have HDM := hideT' hd
        clear hd hAr
        have hlen : (l.take k ++ List.replicate (l.length - k) (⟨#[]⟩ : ByteArray)).length = l.length := by simp; omega
        have HLN := hideT' hlen
        clear hlen
        have hcell : wr.cell? (A.add k) = some (.string d) := by
          have := HAr.out 0 (.string d) rfl
          rwa [Addr.add_zero', Nat.mul_one] at this
        have hD2 := hD
        have hW3 := hW
        clear hD
        go_wp2_with (refine store_rec1 rfl 9 _ _ rfl rfl (fun x : ByteArray => .string x) (fun _ => rfl) size_string w.heap.size k d rfl rfl _ hD2 (by rw [HLN.out]; exact hk') ?_; intro w3 hD3 hg3 hs3)
        go_roundg (l.length - (k + 1))
        case measure => omega
        case rel =>
          refine ⟨k + 1, rfl, by omega, by go_num, ?_, hW3.grown hg3 (by omega) (by intro k hk; injection hk; omega)⟩
          rw [HDM.out, rec_take_set (⟨#[]⟩ : ByteArray) l k hk'] at hD3
          exact hD3
      · have hkn : k = l.length := by omega
        subst hkn
        have hDl : RecAt wr w.heap.size 9 stringL l := by
          have := hD
          rwa [List.take_length, Nat.sub_self, List.replicate_zero, List.append_nil] at this
        clear hD
        go_wp2
        go_ret
        exact ⟨⟨w.heap.size, rfl, Nat.le_refl _, hDl⟩, hW⟩
set_option maxHeartbeats 1000000 in
set_option maxRecDepth 100000 in
theorem eqStringS_any (b c : Nat) (l : List (ByteArray)) (w : World) (hl : l.length ≤ 1048576) (h1 : RecAt w b 9 stringL l) (h2 : RecAt w c 9 stringL l) :
    Calls Tryd.prog 12 #[slR b l, slR c l] w fun e w' => e = .returned (.bool true) ∧ Below w.heap.size w w' := by
  have H1 := hideT' h1
  have H2 := hideT' h2
  have hb := h1.lt
  have hc := h2.lt
  clear h1 h2
  go_enter Tryd.func12, Tryd.ntmps12
  go_wp2_with fail
  go_loopg [5] l.length (fun g i wr => ∃ k : Nat, g = l.length - k ∧ k ≤ l.length ∧ i = .int .i64 (k : Int) ∧ Below w.heap.size w wr)
  case atStart => exact ⟨0, rfl, by omega, rfl, Below.refl _ _⟩
  case round =>
    obtain ⟨k, hg, hk, rfl, hW⟩ := hrel
    by_cases hlt : (k : Int) < (l.length : Int)
    · have hk' : k < l.length := by omega
      obtain ⟨d, hd⟩ : ∃ d, d = l.getD k default := ⟨_, rfl⟩
      have HDM := hideT' hd
      clear hd
      have hcb : wr.cell? ⟨b, k, none⟩ = some (.string d) := by
        have := (H1.out.below hW hb).cell stringL_len k 0 hk' (by decide)
        rw [← HDM.out] at this
        simpa [stringL] using this
      have hcc : wr.cell? ⟨c, k, none⟩ = some (.string d) := by
        have := (H2.out.below hW hc).cell stringL_len k 0 hk' (by decide)
        rw [← HDM.out] at this
        simpa [stringL] using this
      go_wp2_with fail
      go_region
      go_wp2
      go_roundg (l.length - (k + 1))
      case measure => omega
      case rel => exact ⟨k + 1, rfl, by omega, by go_num, hW.drew⟩
    · go_wp2
      go_ret
      exact ⟨rfl, hW⟩
end Go.Proofs.YthbnacikomimfaaDoor
