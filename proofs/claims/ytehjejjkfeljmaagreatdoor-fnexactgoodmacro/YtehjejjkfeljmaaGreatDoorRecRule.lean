/-
  Rows of Rule: what the laws' own helpers over them answer.
-/
import Derived.Test.YtehjejjkfeljmaaGreatDoorRecs
import Derived.Test.YtehjejjkfeljmaaGreatDoorPkHeld
namespace Go.Proofs.YtehjejjkfeljmaaGreatDoor
open Go.RowKit
set_option linter.unusedVariables false
/-- The cells of one. -/
def ruleL (x : ByteArray × ByteArray) : List Value := [.string x.1, .string x.2]
theorem ruleL_len (x : ByteArray × ByteArray) : (ruleL x).length = 2 := rfl
theorem ruleL_one (x : ByteArray × ByteArray) : ∀ u ∈ ruleL x, u.oneCell' = true := by
  intro u hu
  simp [ruleL] at hu
  rcases hu with rfl | rfl <;> rfl
theorem zero_rule : (∀ w, (zeroValue 32).run Tryz.prog w = .ok (.agg #[.string ⟨#[]⟩, .string ⟨#[]⟩]) w) ∧ (Tryz.prog.info? 32).map (·.size) = some 2 := zero_of_info (by kernel_rfl)
theorem size_laws_rule : (Tryz.prog.info? 137).map (·.size) = some 2 := by kernel_rfl
theorem info_rule : (Tryz.prog.info? 32).map (fun i => (i.zero, i.size, i.bytes)) = some (some (.agg #[.string ⟨#[]⟩, .string ⟨#[]⟩]), 2, 32) := by kernel_rfl
theorem make_rule (n : Nat) (hn : n ≤ 1048576) (w : World) : (Instr.makeSlice 24 (.int .i64 (n : Int)) (.int .i64 (n : Int))).run Tryz.prog w = .ok (.slice (some ⟨w.heap.size, 0, none⟩) n n) (w.alloc (.cells ((List.replicate n ((⟨#[]⟩, ⟨#[]⟩) : ByteArray × ByteArray)).flatMap ruleL).toArray 32)) := by
  obtain ⟨i, hi, hzz⟩ := Option.map_eq_some_iff.1 info_rule
  simp only [Prod.mk.injEq] at hzz
  obtain ⟨hz, hs, hb⟩ := hzz
  have hr := run_make (P := Tryz.prog) w 24 32 i _ Tryz.underlying24 hi hz .i64 .i64 n n (by omega) (Int.le_refl _) (by rw [hb]; omega) (by omega)
  simp only [Int.toNat_natCast, hs] at hr
  rw [hr, ← made_rec ruleL 2 ruleL_len _ ((⟨#[]⟩, ⟨#[]⟩) : ByteArray × ByteArray) (by rfl) n]
  rfl
set_option maxHeartbeats 1000000 in
set_option maxRecDepth 100000 in
theorem szRule_any (x : ByteArray × ByteArray) (n : Int) (w : World) (hs : x.1.size ≤ maxLen ∧ x.2.size ≤ maxLen) (hn0 : 0 ≤ n) (hn1 : n ≤ 1048576) :
    Calls Tryz.prog 81 #[.agg (ruleL x).toArray, .int .i64 n] w fun e w' => (∃ r : Int, e = .returned (.int .i64 r) ∧ (r = -1 ∨ (0 ≤ r ∧ r ≤ n ∧ (x.1.size : Int) ≤ n ∧ (x.2.size : Int) ≤ n))) ∧ Below w.heap.size w w' := by
  obtain ⟨a, b⟩ := x
  simp only at hs
  unfold maxLen at hs
  show Calls Tryz.prog 81 #[.agg #[.string a, .string b], .int .i64 n] w _
  have hB : Below w.heap.size w (w.alloc (.cells #[.string a, .string b] 137)) := (Below.refl _ _).alloc (Nat.le_refl _) _
  by_cases h0 : n - (a.size : Int) < 0
  · go_enter Tryz.func81, Tryz.ntmps81
    go_wp2
    go_ret
    exact ⟨⟨-1, rfl, .inl rfl⟩, hB⟩
  by_cases h1 : n - (a.size : Int) - (b.size : Int) < 0
  · go_enter Tryz.func81, Tryz.ntmps81
    go_wp2
    go_ret
    exact ⟨⟨-1, rfl, .inl rfl⟩, hB⟩
  go_enter Tryz.func81, Tryz.ntmps81
  go_wp2
  go_ret
  exact ⟨⟨n - (a.size : Int) - (b.size : Int), rfl, .inr ⟨by omega, by omega, by show (a.size : Int) ≤ n; omega, by show (b.size : Int) ≤ n; omega⟩⟩, hB⟩

set_option maxHeartbeats 1000000 in
set_option maxRecDepth 100000 in
theorem toRule_any (x : ByteArray × ByteArray) (w : World) :
    Calls Tryz.prog 85 #[.agg (ruleL x).toArray] w fun e w' => e = .returned (.agg (ruleL x).toArray) ∧ Below w.heap.size w w' := by
  have hz := zero_rule.1
  obtain ⟨a, b⟩ := x
  show Calls Tryz.prog 85 #[.agg #[.string a, .string b]] w fun e w' => e = .returned (.agg #[.string a, .string b]) ∧ Below w.heap.size w w'
  go_enter Tryz.func85, Tryz.ntmps85
  go_wp2
  refine bodyPost_ret (v := .agg #[.string a, .string b]) (results_cell_row Tryz.results85 _ _ (w.heap.size + 1) 32 #[.string a, .string b] (0, 0) _ rfl (RowAt.old (by have := RowAt.new (w.alloc (.cells #[.string a, .string b] 137)) 32 #[.string a, .string b]; rwa [World.size_alloc] at this) _) Tryz.underlying32 rfl zero_rule.2) rfl ⟨rfl, ?_⟩
  exact (((Below.refl _ _).alloc (Nat.le_refl _) _).alloc (by simp) _).alloc (by simp; omega) _
set_option maxHeartbeats 1000000 in
set_option maxRecDepth 100000 in
theorem eqRule_any (x : ByteArray × ByteArray) (w : World) :
    Calls Tryz.prog 86 #[.agg (ruleL x).toArray, .agg (ruleL x).toArray] w fun e w' => e = .returned (.bool true) ∧ Below w.heap.size w w' := by
  obtain ⟨a, b⟩ := x
  show Calls Tryz.prog 86 #[.agg #[.string a, .string b], .agg #[.string a, .string b]] w fun e w' => e = .returned (.bool true) ∧ Below w.heap.size w w'
  go_enter Tryz.func86, Tryz.ntmps86
  go_wp2
  go_ret
  exact ⟨rfl, ((Below.refl _ _).alloc (Nat.le_refl _) _).alloc (by simp) _⟩
set_option maxHeartbeats 1000000 in
set_option maxRecDepth 100000 in
theorem szRuleS_any (l : List (ByteArray × ByteArray)) (v : Value) (n : Int) (w : World) (hv : SlR w v ruleL 2 l) (hs : ∀ i, i < l.length → (l.getD i default).1.size ≤ maxLen ∧ (l.getD i default).2.size ≤ maxLen) (hn0 : 0 ≤ n) (hn1 : n ≤ 1048576) (hl : l.length ≤ maxLen) :
    Calls Tryz.prog 39 #[v, .int .i64 n] w fun e w' => (∃ r : Int, e = .returned (.int .i64 r) ∧ (r = -1 ∨ (0 ≤ r ∧ r ≤ n ∧ (l.length : Int) ≤ n ∧ ∀ i, i < l.length → ((l.getD i default).1.size : Int) ≤ n ∧ ((l.getD i default).2.size : Int) ≤ n))) ∧ Below w.heap.size w w' := by
  unfold maxLen at hl
  have HS := hideT' hs
  have HV := hideT' hv
  clear hs
  rcases hv with ⟨rfl, rfl⟩ | ⟨A, cap, rfl, hA, hb⟩
  · have h1 : ¬ n < 0 := by omega
    go_enter Tryz.func39, Tryz.ntmps39
    go_wp2_with fail
    go_loopg [1, 5] 0 (fun g x i wr => x = .int .i64 n ∧ i = .int .i64 0 ∧ wr = w)
    case atStart => exact ⟨by go_num, rfl, rfl⟩
    case round =>
      obtain ⟨rfl, rfl, rfl⟩ := hrel
      go_wp2
      go_ret
      exact ⟨⟨n, rfl, .inr ⟨hn0, by omega, by simpa using hn0, fun i hi => by simp at hi⟩⟩, Below.refl _ _⟩
  · by_cases h : n - (l.length : Int) < 0
    · go_enter Tryz.func39, Tryz.ntmps39
      go_wp2
      go_ret
      exact ⟨⟨-1, rfl, .inl rfl⟩, Below.refl _ _⟩
    · go_enter Tryz.func39, Tryz.ntmps39
      go_wp2_with fail
      go_loopg [1, 5] l.length (fun g x i wr => ∃ (m : Int) (k : Nat), g = l.length - k ∧ k ≤ l.length ∧ x = .int .i64 m ∧ 0 ≤ m ∧ m ≤ n ∧ i = .int .i64 (k : Int) ∧ Hid (∀ i, i < k → ((l.getD i default).1.size : Int) ≤ n ∧ ((l.getD i default).2.size : Int) ≤ n) ∧ Below w.heap.size w wr)
      case atStart => exact ⟨n - (l.length : Int), 0, rfl, by omega, by go_num, by omega, by omega, rfl, fun j hj => by omega, Below.refl _ _⟩
      case round =>
        obtain ⟨m, k, hg, hk, rfl, hm0, hm1, rfl, HZ, hW⟩ := hrel
        by_cases hlt : (k : Int) < (l.length : Int)
        · have hk' : k < l.length := by omega
          have hAr : ArgR wr A ruleL 2 l := HV.out.arg hW
          obtain ⟨d, hd⟩ : ∃ d, d = l.getD k default := ⟨_, rfl⟩
          have hds := HS.out k hk'
          rw [← hd] at hds
          have HDD := hideT' hd
          have HAr : Hid (∀ j v, (ruleL d)[j]? = some v → wr.cell? ((A.add (k * 2)).add j) = some v) := fun j v hv => hAr k j v hk' (by rw [← hd]; exact hv)
          clear hd hAr
          go_wp2_with (refine load_rec rfl 137 _ rfl (A.add (k * 2)) rfl (ruleL d) _ HAr.out Tryz.underlying137 rfl size_laws_rule ?_)
          refine (szRule_any d m _ hds hm0 (by omega)).mono ?_
          rintro e w2 ⟨⟨r, rfl, hr⟩, hW2⟩
          have hW3 := hW.trans (hW2.mono hW.size)
          rcases hr with rfl | ⟨hr0, hr1, hr5⟩
          · go_wp2
            go_ret
            exact ⟨⟨-1, rfl, .inl rfl⟩, hW3⟩
          · have hr2 : ¬ r < 0 := by omega
            have HZ2 : Hid (∀ i, i < k + 1 → ((l.getD i default).1.size : Int) ≤ n ∧ ((l.getD i default).2.size : Int) ≤ n) := fun i hi => by
              by_cases e : i = k
              · subst e; rw [← HDD.out]; omega
              · exact HZ.out i (by omega)
            clear hr5
            go_wp2
            go_roundg (l.length - (k + 1))
            case measure => omega
            case rel => exact ⟨r, k + 1, rfl, by omega, rfl, hr0, by omega, by go_num, HZ2, hW3⟩
        · go_wp2
          go_ret
          exact ⟨⟨m, rfl, .inr ⟨hm0, hm1, by omega, fun i hi => HZ.out i (by omega)⟩⟩, hW⟩
set_option maxHeartbeats 1000000 in
set_option maxRecDepth 100000 in
theorem toRuleS_any (l : List (ByteArray × ByteArray)) (v : Value) (w : World) (hv : SlR w v ruleL 2 l) (hl : l.length ≤ 1048576) :
    Calls Tryz.prog 44 #[v] w fun e w' => (∃ b : Nat, e = .returned (slR b l) ∧ w.heap.size ≤ b ∧ RecAt w' b 32 ruleL l) ∧ Below w.heap.size w w' := by
  have HV := hideT' hv
  have hBn : Below w.heap.size w (w.alloc (.cells ((List.replicate l.length ((⟨#[]⟩, ⟨#[]⟩) : ByteArray × ByteArray)).flatMap ruleL).toArray 32)) := (Below.refl _ _).alloc (Nat.le_refl _) _
  have hnew : RecAt (w.alloc (.cells ((List.replicate l.length ((⟨#[]⟩, ⟨#[]⟩) : ByteArray × ByteArray)).flatMap ruleL).toArray 32)) w.heap.size 32 ruleL (List.replicate l.length ((⟨#[]⟩, ⟨#[]⟩) : ByteArray × ByteArray)) := RowAt.new w _ _
  have HN := hideT' (And.intro hnew hBn)
  clear hnew hBn
  rcases hv with ⟨rfl, rfl⟩ | ⟨A, cap, rfl, hA, hb⟩
  · have hmk : ∀ w, (Instr.makeSlice 24 (.int .i64 0) (.int .i64 0)).run Tryz.prog w = .ok (.slice (some ⟨w.heap.size, 0, none⟩) 0 0) (w.alloc (.cells ((List.replicate 0 ((⟨#[]⟩, ⟨#[]⟩) : ByteArray × ByteArray)).flatMap ruleL).toArray 32)) := fun w => make_rule 0 (by omega) w
    go_enter Tryz.func44, Tryz.ntmps44
    go_wp2_with fail
    clear hmk
    go_loopg [4] 0 (fun g i wr => i = .int .i64 0 ∧ RecAt wr w.heap.size 32 ruleL [] ∧ Below w.heap.size w wr)
    case atStart => exact ⟨rfl, HN.out.1, HN.out.2⟩
    case round =>
      obtain ⟨rfl, hD, hW⟩ := hrel
      go_wp2
      go_ret
      exact ⟨⟨w.heap.size, rfl, Nat.le_refl _, hD⟩, hW⟩
  · have hmk := make_rule l.length hl
    go_enter Tryz.func44, Tryz.ntmps44
    go_wp2_with fail
    clear hmk
    go_loopg [4] l.length (fun g i wr => ∃ k : Nat, g = l.length - k ∧ k ≤ l.length ∧ i = .int .i64 (k : Int) ∧ RecAt wr w.heap.size 32 ruleL (l.take k ++ List.replicate (l.length - k) ((⟨#[]⟩, ⟨#[]⟩) : ByteArray × ByteArray)) ∧ Below w.heap.size w wr)
    case atStart => exact ⟨0, rfl, by omega, rfl, HN.out.1, HN.out.2⟩
    case round =>
      obtain ⟨k, hg, hk, rfl, hD, hW⟩ := hrel
      have hsl := hD.lt
      by_cases hlt : (k : Int) < (l.length : Int)
      · have hk' : k < l.length := by omega
        have hAr : ArgR wr A ruleL 2 l := HV.out.arg hW
        obtain ⟨d, hd⟩ : ∃ d, d = l.getD k default := ⟨_, rfl⟩
        have HAr : Hid (∀ j v, (ruleL d)[j]? = some v → wr.cell? ((A.add (k * 2)).add j) = some v) := fun j v hv => hAr k j v hk' (by rw [← hd]; exact hv)
        have HDM := hideT' hd
        clear hd hAr
        have hlen : (l.take k ++ List.replicate (l.length - k) ((⟨#[]⟩, ⟨#[]⟩) : ByteArray × ByteArray)).length = l.length := by simp; omega
        have HLN := hideT' hlen
        clear hlen
        go_wp2_with (refine load_rec rfl 137 _ rfl (A.add (k * 2)) rfl (ruleL d) _ HAr.out Tryz.underlying137 rfl size_laws_rule ?_)
        refine (toRule_any d _).mono ?_
        rintro e w2 ⟨rfl, hW2⟩
        have hD2 : RecAt w2 w.heap.size 32 ruleL (l.take k ++ List.replicate (l.length - k) ((⟨#[]⟩, ⟨#[]⟩) : ByteArray × ByteArray)) := hD.below hW2 hsl
        have hW3 := hW.trans (hW2.mono hW.size)
        have hs2 := hW2.size
        clear hD hW2
        go_wp2_with (refine store_rec rfl 32 _ _ rfl rfl ruleL 2 ruleL_len ruleL_one zero_rule.2 w.heap.size k d rfl rfl _ hD2 (by rw [HLN.out]; exact hk') ?_; intro w3 hD3 hg3 hs3)
        go_roundg (l.length - (k + 1))
        case measure => omega
        case rel =>
          refine ⟨k + 1, rfl, by omega, by go_num, ?_, hW3.grown hg3 (by omega) (by intro k hk; injection hk; omega)⟩
          rw [HDM.out, rec_take_set ((⟨#[]⟩, ⟨#[]⟩) : ByteArray × ByteArray) l k hk'] at hD3
          exact hD3
      · have hkn : k = l.length := by omega
        subst hkn
        have hDl : RecAt wr w.heap.size 32 ruleL l := by
          have := hD
          rwa [List.take_length, Nat.sub_self, List.replicate_zero, List.append_nil] at this
        clear hD
        go_wp2
        go_ret
        exact ⟨⟨w.heap.size, rfl, Nat.le_refl _, hDl⟩, hW⟩
theorem run_rule {o : Oper} {a : Act} {w : World} (x : Operand) (ho : o.op = .load 32 x) (b i : Nat) (hx : a.eval x = .pointer (some ⟨b, i * 2, none⟩)) (l : List (ByteArray × ByteArray)) (hD : RecAt w b 32 ruleL l) (hi : i < l.length) (d : ByteArray × ByteArray) (hd : d = l.getD i default) :
    (execOp a.eval o).run Tryz.prog w = .ok (.value (.agg (ruleL d).toArray)) w := by
  subst hd
  have h := run_loadAt_mid (P := Tryz.prog) w b (i * 2) 32 (ruleL (l.getD i default)) _ (hD.range ruleL_len i hi) Tryz.underlying32 rfl zero_rule.2
  unfold execOp
  simp only [ho, hx, Sem.run_bind, h, Result.andThen_ok]
  rfl
set_option maxHeartbeats 1000000 in
set_option maxRecDepth 100000 in
theorem eqRuleS_any (b c : Nat) (l : List (ByteArray × ByteArray)) (w : World) (hl : l.length ≤ 1048576) (h1 : RecAt w b 32 ruleL l) (h2 : RecAt w c 32 ruleL l) :
    Calls Tryz.prog 46 #[slR b l, slR c l] w fun e w' => e = .returned (.bool true) ∧ Below w.heap.size w w' := by
  have H1 := hideT' h1
  have H2 := hideT' h2
  have hb := h1.lt
  have hc := h2.lt
  clear h1 h2
  go_enter Tryz.func46, Tryz.ntmps46
  go_wp2_with fail
  go_loopg [5] l.length (fun g i wr => ∃ k : Nat, g = l.length - k ∧ k ≤ l.length ∧ i = .int .i64 (k : Int) ∧ Below w.heap.size w wr)
  case atStart => exact ⟨0, rfl, by omega, rfl, Below.refl _ _⟩
  case round =>
    obtain ⟨k, hg, hk, rfl, hW⟩ := hrel
    by_cases hlt : (k : Int) < (l.length : Int)
    · have hk' : k < l.length := by omega
      obtain ⟨d, hd⟩ : ∃ d, d = l.getD k default := ⟨_, rfl⟩
      have HDM := hideT' hd
      clear hd
      have hS : RecAt wr.drew b 32 ruleL l ∧ RecAt wr.drew c 32 ruleL l := ⟨H1.out.below (Below.drew hW) hb, H2.out.below (Below.drew hW) hc⟩
      go_wp2_with fail
      refine held_begin (fun w' => RecAt w' b 32 ruleL l ∧ RecAt w' c 32 ruleL l) (by kernel_rfl) ?_
      refine held_val 0 (some 17) rfl rfl (by kernel_rfl) (by kernel_rfl) (by kernel_rfl) noPanic_put rfl (slR b l) (fun _ => rfl) hS ?_
      simp only [Act.put, List.setIfInBounds_toArray, List.set_cons_zero, List.set_cons_succ]
      refine held_val 1 (some 18) rfl rfl (by kernel_rfl) (by kernel_rfl) (by kernel_rfl) noPanic_put rfl (.int .i64 (k : Int)) (fun _ => rfl) hS ?_
      simp only [Act.put, List.setIfInBounds_toArray, List.set_cons_zero, List.set_cons_succ]
      refine held_val 2 (some 19) rfl rfl (by kernel_rfl) (by kernel_rfl) (by kernel_rfl) noPanic_put rfl (.pointer (some ⟨b, k * 2, none⟩)) (fun _ => by go_simp) hS ?_
      simp only [Act.put, List.setIfInBounds_toArray, List.set_cons_zero, List.set_cons_succ]
      refine held_valS 3 (some 20) rfl rfl (by kernel_rfl) (by kernel_rfl) (by kernel_rfl) noPanic_put rfl (.agg (ruleL d).toArray) (fun _ hw' => run_rule _ rfl b k rfl l hw'.1 hk' d HDM.out) hS ?_
      simp only [Act.put, List.setIfInBounds_toArray, List.set_cons_zero, List.set_cons_succ]
      refine held_val 4 (some 21) rfl rfl (by kernel_rfl) (by kernel_rfl) (by kernel_rfl) noPanic_put rfl (slR c l) (fun _ => rfl) hS ?_
      simp only [Act.put, List.setIfInBounds_toArray, List.set_cons_zero, List.set_cons_succ]
      refine held_val 5 (some 22) rfl rfl (by kernel_rfl) (by kernel_rfl) (by kernel_rfl) noPanic_put rfl (.int .i64 (k : Int)) (fun _ => rfl) hS ?_
      simp only [Act.put, List.setIfInBounds_toArray, List.set_cons_zero, List.set_cons_succ]
      refine held_val 6 (some 23) rfl rfl (by kernel_rfl) (by kernel_rfl) (by kernel_rfl) noPanic_put rfl (.pointer (some ⟨c, k * 2, none⟩)) (fun _ => by go_simp) hS ?_
      simp only [Act.put, List.setIfInBounds_toArray, List.set_cons_zero, List.set_cons_succ]
      refine held_valS 7 (some 24) rfl rfl (by kernel_rfl) (by kernel_rfl) (by kernel_rfl) noPanic_put rfl (.agg (ruleL d).toArray) (fun _ hw' => run_rule _ rfl c k rfl l hw'.2 hk' d HDM.out) hS ?_
      simp only [Act.put, List.setIfInBounds_toArray, List.set_cons_zero, List.set_cons_succ]
      refine held_call 8 (some 25) (by kernel_rfl) rfl rfl rfl 86 #[.agg (ruleL d).toArray, .agg (ruleL d).toArray] (by go_simp) _ (eqRule_any d wr.drew) ?_
      rintro e w2 ⟨rfl, hW2⟩
      have hW2 : Below wr.heap.size wr w2 := ⟨hW2.os, hW2.tape, hW2.output, hW2.size, hW2.block⟩
      have hW3 := hW.trans (hW2.mono hW.size)
      have hS2 : RecAt w2 b 32 ruleL l ∧ RecAt w2 c 32 ruleL l := ⟨H1.out.below hW3 hb, H2.out.below hW3 hc⟩
      refine ⟨_, rfl, hS2, ?_⟩
      simp only [Act.put, List.setIfInBounds_toArray, List.set_cons_zero, List.set_cons_succ]
      refine held_val 9 (some 26) rfl rfl (by kernel_rfl) (by kernel_rfl) (by kernel_rfl) noPanic_put rfl (.bool false) (fun _ => by go_simp) hS2 ?_
      simp only [Act.put, List.setIfInBounds_toArray, List.set_cons_zero, List.set_cons_succ]
      refine wpAnyH_done (by kernel_rfl) ?_ _
      refine NoPanic.normal ?_
      go_wp2
      go_roundg (l.length - (k + 1))
      case measure => omega
      case rel => exact ⟨k + 1, rfl, by omega, by go_num, hW3⟩
    · go_wp2
      go_ret
      exact ⟨rfl, hW⟩
end Go.Proofs.YtehjejjkfeljmaaGreatDoor
