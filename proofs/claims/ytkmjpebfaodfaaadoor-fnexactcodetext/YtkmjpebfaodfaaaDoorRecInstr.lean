/-
  Rows of Instr: what the laws' own helpers over them answer.
-/
import Derived.Test.YtkmjpebfaodfaaaDoorBaseHeld
import Derived.Test.YtkmjpebfaodfaaaDoorRecs
namespace Go.Proofs.YtkmjpebfaodfaaaDoor
open Go.RowKit
set_option linter.unusedVariables false
/-- The cells of one. -/
def instrL (x : Int × Int × ByteArray) : List Value := [.int .i64 x.1, .int .i64 x.2.1, .string x.2.2]
theorem instrL_len (x : Int × Int × ByteArray) : (instrL x).length = 3 := rfl
theorem instrL_one (x : Int × Int × ByteArray) : ∀ u ∈ instrL x, u.oneCell' = true := by
  intro u hu
  simp [instrL] at hu
  rcases hu with rfl | rfl | rfl <;> rfl
theorem zero_instr : (∀ w, (zeroValue 43).run Tryd.prog w = .ok (.agg #[.int .i64 0, .int .i64 0, .string ⟨#[]⟩]) w) ∧ (Tryd.prog.info? 43).map (·.size) = some 3 := zero_of_info (by kernel_rfl)
theorem size_laws_instr : (Tryd.prog.info? 38).map (·.size) = some 3 := by kernel_rfl
theorem info_instr : (Tryd.prog.info? 43).map (fun i => (i.zero, i.size, i.bytes)) = some (some (.agg #[.int .i64 0, .int .i64 0, .string ⟨#[]⟩]), 3, 32) := by kernel_rfl
theorem make_instr (n : Nat) (hn : n ≤ 1048576) (w : World) : (Instr.makeSlice 27 (.int .i64 (n : Int)) (.int .i64 (n : Int))).run Tryd.prog w = .ok (.slice (some ⟨w.heap.size, 0, none⟩) n n) (w.alloc (.cells ((List.replicate n ((0, 0, ⟨#[]⟩) : Int × Int × ByteArray)).flatMap instrL).toArray 43)) := by
  obtain ⟨i, hi, hzz⟩ := Option.map_eq_some_iff.1 info_instr
  simp only [Prod.mk.injEq] at hzz
  obtain ⟨hz, hs, hb⟩ := hzz
  have hr := run_make (P := Tryd.prog) w 27 43 i _ Tryd.underlying27 hi hz .i64 .i64 n n (by omega) (Int.le_refl _) (by rw [hb]; omega) (by omega)
  simp only [Int.toNat_natCast, hs] at hr
  rw [hr, ← made_rec instrL 3 instrL_len _ ((0, 0, ⟨#[]⟩) : Int × Int × ByteArray) (by rfl) n]
  rfl
set_option maxHeartbeats 1000000 in
set_option maxRecDepth 100000 in
theorem szInstr_any (x : Int × Int × ByteArray) (n : Int) (w : World) (hs : x.2.2.size ≤ maxLen) (hn0 : 0 ≤ n) (hn1 : n ≤ 1048576) :
    Calls Tryd.prog 16 #[.agg (instrL x).toArray, .int .i64 n] w fun e w' => (∃ r : Int, e = .returned (.int .i64 r) ∧ (r = -1 ∨ (0 ≤ r ∧ r ≤ n ∧ (x.2.2.size : Int) ≤ n))) ∧ Below w.heap.size w w' := by
  obtain ⟨a, b, c⟩ := x
  simp only at hs
  unfold maxLen at hs
  show Calls Tryd.prog 16 #[.agg #[.int .i64 a, .int .i64 b, .string c], .int .i64 n] w _
  have hB : Below w.heap.size w (w.alloc (.cells #[.int .i64 a, .int .i64 b, .string c] 38)) := (Below.refl _ _).alloc (Nat.le_refl _) _
  by_cases h0 : n - (c.size : Int) < 0
  · go_enter Tryd.func16, Tryd.ntmps16
    go_wp2
    go_ret
    exact ⟨⟨-1, rfl, .inl rfl⟩, hB⟩
  go_enter Tryd.func16, Tryd.ntmps16
  go_wp2
  go_ret
  exact ⟨⟨n - (c.size : Int), rfl, .inr ⟨by omega, by omega, by show (c.size : Int) ≤ n; omega⟩⟩, hB⟩

set_option maxHeartbeats 1000000 in
set_option maxRecDepth 100000 in
theorem toInstr_any (x : Int × Int × ByteArray) (w : World) :
    Calls Tryd.prog 18 #[.agg (instrL x).toArray] w fun e w' => e = .returned (.agg (instrL x).toArray) ∧ Below w.heap.size w w' := by
  have hz := zero_instr.1
  obtain ⟨a, b, c⟩ := x
  show Calls Tryd.prog 18 #[.agg #[.int .i64 a, .int .i64 b, .string c]] w fun e w' => e = .returned (.agg #[.int .i64 a, .int .i64 b, .string c]) ∧ Below w.heap.size w w'
  go_enter Tryd.func18, Tryd.ntmps18
  go_wp2
  refine bodyPost_ret (v := .agg #[.int .i64 a, .int .i64 b, .string c]) (results_cell_row Tryd.results18 _ _ (w.heap.size + 1) 43 #[.int .i64 a, .int .i64 b, .string c] (0, 0) _ rfl (RowAt.old (by have := RowAt.new (w.alloc (.cells #[.int .i64 a, .int .i64 b, .string c] 38)) 43 #[.int .i64 a, .int .i64 b, .string c]; rwa [World.size_alloc] at this) _) Tryd.underlying43 rfl zero_instr.2) rfl ⟨rfl, ?_⟩
  exact (((Below.refl _ _).alloc (Nat.le_refl _) _).alloc (by simp) _).alloc (by simp; omega) _
set_option maxHeartbeats 1000000 in
set_option maxRecDepth 100000 in
theorem eqInstr_any (x : Int × Int × ByteArray) (w : World) :
    Calls Tryd.prog 22 #[.agg (instrL x).toArray, .agg (instrL x).toArray] w fun e w' => e = .returned (.bool true) ∧ Below w.heap.size w w' := by
  obtain ⟨a, b, c⟩ := x
  show Calls Tryd.prog 22 #[.agg #[.int .i64 a, .int .i64 b, .string c], .agg #[.int .i64 a, .int .i64 b, .string c]] w fun e w' => e = .returned (.bool true) ∧ Below w.heap.size w w'
  go_enter Tryd.func22, Tryd.ntmps22
  go_wp2
  go_ret
  exact ⟨rfl, ((Below.refl _ _).alloc (Nat.le_refl _) _).alloc (by simp) _⟩
set_option maxHeartbeats 1000000 in
set_option maxRecDepth 100000 in
theorem szInstrS_any (l : List (Int × Int × ByteArray)) (v : Value) (n : Int) (w : World) (hv : SlR w v instrL 3 l) (hs : ∀ i, i < l.length → (l.getD i default).2.2.size ≤ maxLen) (hn0 : 0 ≤ n) (hn1 : n ≤ 1048576) (hl : l.length ≤ maxLen) :
    Calls Tryd.prog 5 #[v, .int .i64 n] w fun e w' => (∃ r : Int, e = .returned (.int .i64 r) ∧ (r = -1 ∨ (0 ≤ r ∧ r ≤ n ∧ (l.length : Int) ≤ n ∧ ∀ i, i < l.length → ((l.getD i default).2.2.size : Int) ≤ n))) ∧ Below w.heap.size w w' := by
  unfold maxLen at hl
  have HS := hideT' hs
  have HV := hideT' hv
  clear hs
  rcases hv with ⟨rfl, rfl⟩ | ⟨A, cap, rfl, hA, hb⟩
  · have h1 : ¬ n < 0 := by omega
    go_enter Tryd.func5, Tryd.ntmps5
    go_wp2_with fail
    go_loopg [1, 5] 0 (fun g x i wr => x = .int .i64 n ∧ i = .int .i64 0 ∧ wr = w)
    case atStart => exact ⟨by go_num, rfl, rfl⟩
    case round =>
      obtain ⟨rfl, rfl, rfl⟩ := hrel
      go_wp2
      go_ret
      exact ⟨⟨n, rfl, .inr ⟨hn0, by omega, by simpa using hn0, fun i hi => by simp at hi⟩⟩, Below.refl _ _⟩
  · by_cases h : n - (l.length : Int) < 0
    · go_enter Tryd.func5, Tryd.ntmps5
      go_wp2
      go_ret
      exact ⟨⟨-1, rfl, .inl rfl⟩, Below.refl _ _⟩
    · go_enter Tryd.func5, Tryd.ntmps5
      go_wp2_with fail
      go_loopg [1, 5] l.length (fun g x i wr => ∃ (m : Int) (k : Nat), g = l.length - k ∧ k ≤ l.length ∧ x = .int .i64 m ∧ 0 ≤ m ∧ m ≤ n ∧ i = .int .i64 (k : Int) ∧ Hid (∀ i, i < k → ((l.getD i default).2.2.size : Int) ≤ n) ∧ Below w.heap.size w wr)
      case atStart => exact ⟨n - (l.length : Int), 0, rfl, by omega, by go_num, by omega, by omega, rfl, fun j hj => by omega, Below.refl _ _⟩
      case round =>
        obtain ⟨m, k, hg, hk, rfl, hm0, hm1, rfl, HZ, hW⟩ := hrel
        by_cases hlt : (k : Int) < (l.length : Int)
        · have hk' : k < l.length := by omega
          have hAr : ArgR wr A instrL 3 l := HV.out.arg hW
          obtain ⟨d, hd⟩ : ∃ d, d = l.getD k default := ⟨_, rfl⟩
          have hds := HS.out k hk'
          rw [← hd] at hds
          have HDD := hideT' hd
          have HAr : Hid (∀ j v, (instrL d)[j]? = some v → wr.cell? ((A.add (k * 3)).add j) = some v) := fun j v hv => hAr k j v hk' (by rw [← hd]; exact hv)
          clear hd hAr
          go_wp2_with (refine load_rec rfl 38 _ rfl (A.add (k * 3)) rfl (instrL d) _ HAr.out Tryd.underlying38 rfl size_laws_instr ?_)
          refine (szInstr_any d m _ hds hm0 (by omega)).mono ?_
          rintro e w2 ⟨⟨r, rfl, hr⟩, hW2⟩
          have hW3 := hW.trans (hW2.mono hW.size)
          rcases hr with rfl | ⟨hr0, hr1, hr5⟩
          · go_wp2
            go_ret
            exact ⟨⟨-1, rfl, .inl rfl⟩, hW3⟩
          · have hr2 : ¬ r < 0 := by omega
            have HZ2 : Hid (∀ i, i < k + 1 → ((l.getD i default).2.2.size : Int) ≤ n) := fun i hi => by
              by_cases e : i = k
              · subst e; rw [← HDD.out]; omega
              · exact HZ.out i (by omega)
            clear hr5
            go_wp2
            go_roundg (l.length - (k + 1))
            case measure => omega
            case rel => exact ⟨r, k + 1, rfl, by omega, rfl, hr0, by omega, by go_num, HZ2, hW3⟩
        · go_wp2
          go_ret
          exact ⟨⟨m, rfl, .inr ⟨hm0, hm1, by omega, fun i hi => HZ.out i (by omega)⟩⟩, hW⟩
set_option maxHeartbeats 1000000 in
set_option maxRecDepth 100000 in
theorem toInstrS_any (l : List (Int × Int × ByteArray)) (v : Value) (w : World) (hv : SlR w v instrL 3 l) (hl : l.length ≤ 1048576) :
    Calls Tryd.prog 7 #[v] w fun e w' => (∃ b : Nat, e = .returned (slR b l) ∧ w.heap.size ≤ b ∧ RecAt w' b 43 instrL l) ∧ Below w.heap.size w w' := by
  have HV := hideT' hv
  have hBn : Below w.heap.size w (w.alloc (.cells ((List.replicate l.length ((0, 0, ⟨#[]⟩) : Int × Int × ByteArray)).flatMap instrL).toArray 43)) := (Below.refl _ _).alloc (Nat.le_refl _) _
  have hnew : RecAt (w.alloc (.cells ((List.replicate l.length ((0, 0, ⟨#[]⟩) : Int × Int × ByteArray)).flatMap instrL).toArray 43)) w.heap.size 43 instrL (List.replicate l.length ((0, 0, ⟨#[]⟩) : Int × Int × ByteArray)) := RowAt.new w _ _
  have HN := hideT' (And.intro hnew hBn)
  clear hnew hBn
  rcases hv with ⟨rfl, rfl⟩ | ⟨A, cap, rfl, hA, hb⟩
  · have hmk : ∀ w, (Instr.makeSlice 27 (.int .i64 0) (.int .i64 0)).run Tryd.prog w = .ok (.slice (some ⟨w.heap.size, 0, none⟩) 0 0) (w.alloc (.cells ((List.replicate 0 ((0, 0, ⟨#[]⟩) : Int × Int × ByteArray)).flatMap instrL).toArray 43)) := fun w => make_instr 0 (by omega) w
    go_enter Tryd.func7, Tryd.ntmps7
    go_wp2_with fail
    clear hmk
    go_loopg [4] 0 (fun g i wr => i = .int .i64 0 ∧ RecAt wr w.heap.size 43 instrL [] ∧ Below w.heap.size w wr)
    case atStart => exact ⟨rfl, HN.out.1, HN.out.2⟩
    case round =>
      obtain ⟨rfl, hD, hW⟩ := hrel
      go_wp2
      go_ret
      exact ⟨⟨w.heap.size, rfl, Nat.le_refl _, hD⟩, hW⟩
  · have hmk := make_instr l.length hl
    go_enter Tryd.func7, Tryd.ntmps7
    go_wp2_with fail
    clear hmk
    go_loopg [4] l.length (fun g i wr => ∃ k : Nat, g = l.length - k ∧ k ≤ l.length ∧ i = .int .i64 (k : Int) ∧ RecAt wr w.heap.size 43 instrL (l.take k ++ List.replicate (l.length - k) ((0, 0, ⟨#[]⟩) : Int × Int × ByteArray)) ∧ Below w.heap.size w wr)
    case atStart => exact ⟨0, rfl, by omega, rfl, HN.out.1, HN.out.2⟩
    case round =>
      obtain ⟨k, hg, hk, rfl, hD, hW⟩ := hrel
      have hsl := hD.lt
      by_cases hlt : (k : Int) < (l.length : Int)
      · have hk' : k < l.length := by omega
        have hAr : ArgR wr A instrL 3 l := HV.out.arg hW
        obtain ⟨d, hd⟩ : ∃ d, d = l.getD k default := ⟨_, rfl⟩
        have HAr : Hid (∀ j v, (instrL d)[j]? = some v → wr.cell? ((A.add (k * 3)).add j) = some v) := fun j v hv => hAr k j v hk' (by rw [← hd]; exact hv)
        have HDM := hideT' hd
        clear hd hAr
        have hlen : (l.take k ++ List.replicate (l.length - k) ((0, 0, ⟨#[]⟩) : Int × Int × ByteArray)).length = l.length := by simp; omega
        have HLN := hideT' hlen
        clear hlen
        go_wp2_with (refine load_rec rfl 38 _ rfl (A.add (k * 3)) rfl (instrL d) _ HAr.out Tryd.underlying38 rfl size_laws_instr ?_)
        refine (toInstr_any d _).mono ?_
        rintro e w2 ⟨rfl, hW2⟩
        have hD2 : RecAt w2 w.heap.size 43 instrL (l.take k ++ List.replicate (l.length - k) ((0, 0, ⟨#[]⟩) : Int × Int × ByteArray)) := hD.below hW2 hsl
        have hW3 := hW.trans (hW2.mono hW.size)
        have hs2 := hW2.size
        clear hD hW2
        go_wp2_with (refine store_rec rfl 43 _ _ rfl rfl instrL 3 instrL_len instrL_one zero_instr.2 w.heap.size k d rfl rfl _ hD2 (by rw [HLN.out]; exact hk') ?_; intro w3 hD3 hg3 hs3)
        go_roundg (l.length - (k + 1))
        case measure => omega
        case rel =>
          refine ⟨k + 1, rfl, by omega, by go_num, ?_, hW3.grown hg3 (by omega) (by intro k hk; injection hk; omega)⟩
          rw [HDM.out, rec_take_set ((0, 0, ⟨#[]⟩) : Int × Int × ByteArray) l k hk'] at hD3
          exact hD3
      · have hkn : k = l.length := by omega
        subst hkn
        have hDl : RecAt wr w.heap.size 43 instrL l := by
          have := hD
          rwa [List.take_length, Nat.sub_self, List.replicate_zero, List.append_nil] at this
        clear hD
        go_wp2
        go_ret
        exact ⟨⟨w.heap.size, rfl, Nat.le_refl _, hDl⟩, hW⟩
theorem run_instr {o : Oper} {a : Act} {w : World} (x : Operand) (ho : o.op = .load 43 x) (b i : Nat) (hx : a.eval x = .pointer (some ⟨b, i * 3, none⟩)) (l : List (Int × Int × ByteArray)) (hD : RecAt w b 43 instrL l) (hi : i < l.length) (d : Int × Int × ByteArray) (hd : d = l.getD i default) :
    (execOp a.eval o).run Tryd.prog w = .ok (.value (.agg (instrL d).toArray)) w := by
  subst hd
  have h := run_loadAt_mid (P := Tryd.prog) w b (i * 3) 43 (instrL (l.getD i default)) _ (hD.range instrL_len i hi) Tryd.underlying43 rfl zero_instr.2
  unfold execOp
  simp only [ho, hx, Sem.run_bind, h, Result.andThen_ok]
  rfl
set_option maxHeartbeats 1000000 in
set_option maxRecDepth 100000 in
theorem eqInstrS_any (b c : Nat) (l : List (Int × Int × ByteArray)) (w : World) (hl : l.length ≤ 1048576) (h1 : RecAt w b 43 instrL l) (h2 : RecAt w c 43 instrL l) :
    Calls Tryd.prog 10 #[slR b l, slR c l] w fun e w' => e = .returned (.bool true) ∧ Below w.heap.size w w' := by
  have H1 := hideT' h1
  have H2 := hideT' h2
  have hb := h1.lt
  have hc := h2.lt
  clear h1 h2
  go_enter Tryd.func10, Tryd.ntmps10
  go_wp2_with fail
  go_loopg [5] l.length (fun g i wr => ∃ k : Nat, g = l.length - k ∧ k ≤ l.length ∧ i = .int .i64 (k : Int) ∧ Below w.heap.size w wr)
  case atStart => exact ⟨0, rfl, by omega, rfl, Below.refl _ _⟩
  case round =>
    obtain ⟨k, hg, hk, rfl, hW⟩ := hrel
    by_cases hlt : (k : Int) < (l.length : Int)
    · have hk' : k < l.length := by omega
      obtain ⟨d, hd⟩ : ∃ d, d = l.getD k default := ⟨_, rfl⟩
      have HDM := hideT' hd
      clear hd
      have hS : RecAt wr.drew b 43 instrL l ∧ RecAt wr.drew c 43 instrL l := ⟨H1.out.below (Below.drew hW) hb, H2.out.below (Below.drew hW) hc⟩
      go_wp2_with fail
      refine held_begin (fun w' => RecAt w' b 43 instrL l ∧ RecAt w' c 43 instrL l) (by kernel_rfl) ?_
      refine held_val 0 (some 17) rfl rfl (by kernel_rfl) (by kernel_rfl) (by kernel_rfl) noPanic_put rfl (slR b l) (fun _ => rfl) hS ?_
      simp only [Act.put, List.setIfInBounds_toArray, List.set_cons_zero, List.set_cons_succ]
      refine held_val 1 (some 18) rfl rfl (by kernel_rfl) (by kernel_rfl) (by kernel_rfl) noPanic_put rfl (.int .i64 (k : Int)) (fun _ => rfl) hS ?_
      simp only [Act.put, List.setIfInBounds_toArray, List.set_cons_zero, List.set_cons_succ]
      refine held_val 2 (some 19) rfl rfl (by kernel_rfl) (by kernel_rfl) (by kernel_rfl) noPanic_put rfl (.pointer (some ⟨b, k * 3, none⟩)) (fun _ => by go_simp) hS ?_
      simp only [Act.put, List.setIfInBounds_toArray, List.set_cons_zero, List.set_cons_succ]
      refine held_valS 3 (some 20) rfl rfl (by kernel_rfl) (by kernel_rfl) (by kernel_rfl) noPanic_put rfl (.agg (instrL d).toArray) (fun _ hw' => run_instr _ rfl b k rfl l hw'.1 hk' d HDM.out) hS ?_
      simp only [Act.put, List.setIfInBounds_toArray, List.set_cons_zero, List.set_cons_succ]
      refine held_val 4 (some 21) rfl rfl (by kernel_rfl) (by kernel_rfl) (by kernel_rfl) noPanic_put rfl (slR c l) (fun _ => rfl) hS ?_
      simp only [Act.put, List.setIfInBounds_toArray, List.set_cons_zero, List.set_cons_succ]
      refine held_val 5 (some 22) rfl rfl (by kernel_rfl) (by kernel_rfl) (by kernel_rfl) noPanic_put rfl (.int .i64 (k : Int)) (fun _ => rfl) hS ?_
      simp only [Act.put, List.setIfInBounds_toArray, List.set_cons_zero, List.set_cons_succ]
      refine held_val 6 (some 23) rfl rfl (by kernel_rfl) (by kernel_rfl) (by kernel_rfl) noPanic_put rfl (.pointer (some ⟨c, k * 3, none⟩)) (fun _ => by go_simp) hS ?_
      simp only [Act.put, List.setIfInBounds_toArray, List.set_cons_zero, List.set_cons_succ]
      refine held_valS 7 (some 24) rfl rfl (by kernel_rfl) (by kernel_rfl) (by kernel_rfl) noPanic_put rfl (.agg (instrL d).toArray) (fun _ hw' => run_instr _ rfl c k rfl l hw'.2 hk' d HDM.out) hS ?_
      simp only [Act.put, List.setIfInBounds_toArray, List.set_cons_zero, List.set_cons_succ]
      refine held_call 8 (some 25) (by kernel_rfl) rfl rfl rfl 22 #[.agg (instrL d).toArray, .agg (instrL d).toArray] (by go_simp) _ (eqInstr_any d wr.drew) ?_
      rintro e w2 ⟨rfl, hW2⟩
      have hW2 : Below wr.heap.size wr w2 := ⟨hW2.os, hW2.tape, hW2.output, hW2.size, hW2.block⟩
      have hW3 := hW.trans (hW2.mono hW.size)
      have hS2 : RecAt w2 b 43 instrL l ∧ RecAt w2 c 43 instrL l := ⟨H1.out.below hW3 hb, H2.out.below hW3 hc⟩
      refine ⟨_, rfl, hS2, ?_⟩
      simp only [Act.put, List.setIfInBounds_toArray, List.set_cons_zero, List.set_cons_succ]
      refine held_val 9 (some 26) rfl rfl (by kernel_rfl) (by kernel_rfl) (by kernel_rfl) noPanic_put rfl (.bool false) (fun _ => by go_simp) hS2 ?_
      simp only [Act.put, List.setIfInBounds_toArray, List.set_cons_zero, List.set_cons_succ]
      refine wpAnyH_done (by kernel_rfl) ?_ _
      refine NoPanic.normal ?_
      go_wp2
      go_roundg (l.length - (k + 1))
      case measure => omega
      case rel => exact ⟨k + 1, rfl, by omega, by go_num, hW3⟩
    · go_wp2
      go_ret
      exact ⟨rfl, hW⟩
end Go.Proofs.YtkmjpebfaodfaaaDoor
