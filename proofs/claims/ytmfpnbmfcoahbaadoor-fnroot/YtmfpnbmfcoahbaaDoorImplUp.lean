/-
  What raised of impl's nats answers.
-/
import Derived.Test.YtmfpnbmfcoahbaaDoorImplLen
namespace Go.Proofs.YtmfpnbmfcoahbaaDoor
open Go.RowKit
set_option linter.unusedVariables false

/-- Parts moved up. -/
def upP (s i : Nat) (r : List Int) : List Int := List.replicate s 0 ++ r.take i ++ List.replicate (204 - (s + i)) 0
theorem upP_len {s i : Nat} {r : List Int} (h : s + i ≤ 204) (hr : r.length = 204) : (upP s i r).length = 204 := by
  simp [upP, hr]; omega
theorem upP_get {s i : Nat} {r : List Int} (hi : i ≤ r.length) (j : Nat) : (upP s i r).getD j 0 = if s ≤ j ∧ j < s + i then r.getD (j - s) 0 else 0 := by
  unfold upP
  simp only [List.getD]
  by_cases h1 : j < s
  · rw [List.append_assoc, List.getElem?_append_left (by simpa using h1), if_neg (by omega)]; simp [h1]
  · by_cases h2 : j < s + i
    · rw [List.append_assoc, List.getElem?_append_right (by simp; omega), List.length_replicate, List.getElem?_append_left (by simp; omega), if_pos (by omega), List.getElem?_take_of_lt (by omega)]
    · rw [List.getElem?_append_right (by simp; omega), if_neg (by omega)]
      simp only [List.getElem?_replicate]; split <;> rfl
theorem vb_repl (B : Int) (s : Nat) : vb B (List.replicate s 0) = 0 := vb_zero B _ (fun i => by simp only [List.getD, List.getElem?_replicate]; split <;> rfl)
theorem Rep.up {v i : Nat} {r : List Int} (h : Rep v i r) (s : Nat) (hs : s + i ≤ 204) (hi : 0 < i) : Rep (v * 10 ^ (6 * s)) (i + s) (upP s i r) where
  len := upP_len hs h.len
  le := by omega
  lo := fun j => by rw [upP_get (by rw [h.len]; omega)]; split; exact h.lo _; exact Int.le_refl _
  hi := fun j => by rw [upP_get (by rw [h.len]; omega)]; split; exact h.hi _; decide
  out := fun j hj => by rw [upP_get (by rw [h.len]; omega), if_neg (by omega)]
  top := fun _ => by
    rw [upP_get (by rw [h.len]; omega), if_pos (by omega), show i + s - 1 - s = i - 1 by omega]; exact h.top hi
  val := by
    unfold upP
    rw [vb_append, vb_append, vb_repl, vb_repl, List.length_replicate, vb_take_out _ _ _ (by rw [h.len]; omega) h.out, h.val, Int.zero_add, Int.mul_zero, Int.add_zero]
    have e : (1000000 : Int) ^ s = ((10 ^ (6 * s) : Nat) : Int) := by
      rw [Nat.pow_mul, Int.natCast_pow]; rfl
    rw [e, ← Int.natCast_mul, Nat.mul_comm]
theorem up_cells (u : Int) (s i : Nat) (r : List Int) (hs : s + i ≤ 204) : ((natC u zP).toList.take (1 + s) ++ (r.take i).map (Value.int .i64) ++ (natC u zP).toList.drop (1 + s + i)).toArray = natC u (upP s i r) := by
  unfold natC upP zP
  apply Array.ext'
  simp only [List.map_cons, Nat.add_comm 1 s, List.take_succ_cons, List.map_append, List.map_replicate, List.cons_append]
  rw [show s + 1 + i = (s + i) + 1 by omega, List.drop_succ_cons, List.take_replicate, List.drop_replicate, Nat.min_eq_left (by omega)]
theorem built_natU (u : Int) : Tryd.prog.built 46 [(0, .int .i64 u)] = some (natC u zP) := by kernel_rfl
theorem ints_one (l : List Int) : ∀ v ∈ l.map (Value.int .i64), v.oneCell' = true := by
  intro v hv
  simp at hv
  obtain ⟨x, _, rfl⟩ := hv; rfl
/-- Copying, as an operation. -/
theorem run_copy1 {o : Oper} {a : Act} {w w' : World} (x y : Operand) (t : TypeId) (ho : o.op = .call { callee := .builtin .copy, args := #[x, y], argTypes := #[t, t] }) (u v r : Value) (hx : a.eval x = u) (hy : a.eval y = v) (h : (Builtin.copy_ #[t, t] o.type #[u, v]).run Tryd.prog w = .ok r w') :
    (execOp a.eval o).run Tryd.prog w = .ok (.value r) w' := by
  unfold execOp
  simp only [ho, resolve, invoke, builtin, Sem.run_bind, Sem.run_pure, Result.andThen_ok, List.map_toArray, List.map_cons, List.map_nil, hx, hy, h]
theorem ints_info : (Tryd.prog.info? 3).map (·.size) = some 1 := by kernel_rfl

set_option maxHeartbeats 4000000 in
set_option maxRecDepth 100000 in
theorem raised_any {n k : Nat} {p : List Int} (d : Nat) (w : World) (hP : Rep n k p) (hk : k + d / 6 + 4 ≤ 204) :
    Calls Tryd.prog 58 #[.agg (natC k p), .int .i64 (d : Int)] w fun e w' => ∃ (i : Nat) (r : List Int), e = .returned (.agg (natC i r)) ∧ Rep (n * 10 ^ d) i r ∧ Below w.heap.size w w' := by
  have hz := zero_nat.1
  have hp := hP.len
  have A := (NatAt.new w k p).old (.cells (natC 0 zP) 46)
  have B := NatAt.new (w.alloc (.cells (natC k p) 46)) 0 zP
  have hB : Below w.heap.size w ((w.alloc (.cells (natC k p) 46)).alloc (.cells (natC 0 zP) 46)) := ((Below.refl _ _).alloc (Nat.le_refl _) _).alloc (by simp) _
  simp only [World.size_alloc] at B
  have a0 := A.c0
  by_cases hk0 : k = 0
  · have hn : n = 0 := hP.zero_iff.1 hk0
    have HR : Hid (Rep (n * 10 ^ d) k p) := by unfold Hid; rw [hn, Nat.zero_mul]; rw [hn] at hP; exact hP
    have hzz : ((k : Int) == 0) = true := by simp [hk0]
    clear hP hn hk0 hk
    go_enter Tryd.func58, Tryd.ntmps58
    go_wp2_with (first | (refine load_nat rfl _ rfl w.heap.size rfl k p A hp ?_) | (refine store_nat rfl _ _ rfl rfl (w.heap.size + 1) k p rfl rfl 0 zP B zP_len hp ?_; intro w2 hN2 hg2 hs2))
    refine bodyPost_ret (v := .agg (natC k p)) (res_nat Tryd.results58 _ _ (w.heap.size + 1) _ _ rfl hN2 hp) rfl ⟨k, p, rfl, HR.out, ?_⟩
    exact hB.grown hg2 (by simp; omega) (by intro k hk; cases hk; omega)
  · obtain ⟨m, hm⟩ : ∃ m, m = d % 6 := ⟨_, rfl⟩
    obtain ⟨s, hs⟩ : ∃ s, s = d / 6 := ⟨_, rfl⟩
    have hm6 : m ≤ 5 := by omega
    have hrm : (d : Int).tmod 6 = (m : Int) := by rw [Int.tmod_eq_emod_of_nonneg (by omega)]; omega
    have hqt : (d : Int).tdiv 6 = (s : Int) := by rw [Int.tdiv_eq_ediv_of_nonneg (by omega)]; omega
    have hne : ((k : Int) == 0) = false := by simp; omega
    have hD : d = 6 * s + m := by omega
    have hks : k + s + 4 ≤ 204 := by omega
    have HP := hide hP
    have HD := hide hD
    have HN0 : Hid (n ≠ 0) := fun h => hk0 (hP.zero_iff.2 h)
    clear hP hk hD hm hs hk0
    go_enter Tryd.func58, Tryd.ntmps58
    go_wp2_with fail
    clear a0
    refine late_begin [5] (fun w' => NatAt w' w.heap.size k p) (by kernel_rfl) ?_
    have hS : NatAt ((w.alloc (.cells (natC k p) 46)).alloc (.cells (natC 0 zP) 46)).drew w.heap.size k p := A
    refine late_val 0 (some 11) rfl rfl (by kernel_rfl) (by kernel_rfl) (by kernel_rfl) [4, 5] (by kernel_rfl) noPanic_put rfl (.agg (natC k p)) (fun _ h => run_nat0 _ rfl w.heap.size rfl k p hp h) hS ?_
    simp only [Act.put, List.setIfInBounds_toArray, List.set_cons_zero, List.set_cons_succ]
    refine late_val 1 (some 12) rfl rfl (by kernel_rfl) (by kernel_rfl) (by kernel_rfl) [2, 3, 4, 5] (by kernel_rfl) noPanic_put rfl (.int .i64 (d : Int)) (fun _ _ => rfl) hS ?_
    simp only [Act.put, List.setIfInBounds_toArray, List.set_cons_zero, List.set_cons_succ]
    refine late_val 2 (some 13) rfl rfl (by kernel_rfl) (by kernel_rfl) (by kernel_rfl) [3, 4, 5] (by kernel_rfl) noPanic_put rfl (.int .i64 (m : Int)) (fun _ _ => by go_simp) hS ?_
    simp only [Act.put, List.setIfInBounds_toArray, List.set_cons_zero, List.set_cons_succ]
    refine late_call 3 (some 14) (by kernel_rfl) rfl rfl rfl 85 #[.int .i64 (m : Int)] (by go_simp) _ (tenTo_any m _ hm6) ?_
    rintro e w1 ⟨⟨y, rfl, hy⟩, rfl⟩
    refine ⟨_, rfl, .inr hS, ?_⟩
    simp only [Act.put, List.setIfInBounds_toArray, List.set_cons_zero, List.set_cons_succ]
    have hy0 : 0 < y := by rw [hy]; exact Int.natCast_pos.2 (Nat.pow_pos (by decide))
    have hy1 : y ≤ 100000 := by
      have h1 : 10 ^ m ≤ 10 ^ 5 := Nat.pow_le_pow_right (by decide) hm6
      have e5 : (10 : Nat) ^ 5 = 100000 := by decide
      omega
    refine late_call 4 (some 15) (by kernel_rfl) rfl rfl rfl 84 #[.agg (natC k p), .int .i64 y, .int .i64 0] (by go_simp) _ (timesWide_any y 0 _ (10 ^ m) 0 HP.out (by omega) hy rfl hy0 (by omega) (by omega) (by omega)) ?_
    rintro e w2 ⟨i, r, rfl, hR, hW2⟩
    have hS2 : NatAt w2 w.heap.size k p := NatAt.below hS hW2 (by simp; omega)
    refine ⟨_, rfl, .inr hS2, ?_⟩
    simp only [Act.put, List.setIfInBounds_toArray, List.set_cons_zero, List.set_cons_succ]
    have hrl := hR.len
    refine late_store 5 (by kernel_rfl) rfl rfl _ _ rfl rfl w.heap.size i r rfl rfl k p hS2 hp hrl ?_
    intro w3 hN3 hg3 hs3
    refine ⟨.inl ⟨5, by simp, rfl⟩, ?_⟩
    refine late_done (by kernel_rfl) ?_ _
    refine NoPanic.normal ?_
    have hB2 : Below w.heap.size w w2 := hB.drew.trans (hW2.mono (by simp; omega))
    have hB3 : Below w.heap.size w w3 := hB2.grown hg3 (by have := hB2.size; omega) (by intro k hk; cases hk; omega)
    have hs2 : w.heap.size + 1 + 1 ≤ w2.heap.size := by have := hW2.size; simpa using this
    have B3 : NatAt w3 (w.heap.size + 1) 0 zP := (NatAt.below (w := ((w.alloc (.cells (natC k p) 46)).alloc (.cells (natC 0 zP) 46)).drew) B hW2 (by simp)).grown hg3 (by simp)
    have hval : 10 ^ m * n + 0 = n * 10 ^ m := by rw [Nat.add_zero, Nat.mul_comm]
    rw [hval] at hR
    have hi0 : 0 < i := by
      rcases Nat.eq_zero_or_pos i with h | h
      · have h1 := hR.zero_iff.1 h
        have h2 : 0 < n * 10 ^ m := Nat.mul_pos (Nat.pos_of_ne_zero HN0.out) (Nat.pow_pos (by decide))
        omega
      · exact h
    have hik : i ≤ k + 1 := by
      have h1 := hR.geN hi0
      have h2 := HP.out.ltN
      have h3 : 10 ^ m < 1000000 ^ 1 := Nat.lt_of_le_of_lt (Nat.pow_le_pow_right (by decide) hm6) (by decide)
      exact mul_cnt (B := 1000000) (by decide) h2 h3 h1
    have hwi : IntKind.i64.wrap ((i : Int) + (s : Int)) = ((i + s : Nat) : Int) := by rw [IntKind.wrap_i64]; omega
    obtain ⟨u, hu⟩ : ∃ u, u = i + s := ⟨_, rfl⟩
    rw [← hu] at hwi
    have HU := hide hu
    have HR := hide hR
    have HIK : Hid (0 < i ∧ i ≤ k + 1) := ⟨hi0, hik⟩
    have c3 := hN3.c0
    have C := NatAt.new w3 0 zP
    have hs3' := hN3.lt
    have h204 : s + i ≤ 204 := by omega
    clear hS hS2 hW2 hR hval hg3 hs3 hy hu hi0 hik A B hB hB2
    have A3 : NatAt (w3.alloc (.cells (natC 0 zP) 46)) w.heap.size i r := hN3.old _
    have B4 : NatAt (w3.alloc (.cells (natC 0 zP) 46)) (w.heap.size + 1) 0 zP := B3.old _
    have hB4 : Below w.heap.size w (w3.alloc (.cells (natC 0 zP) 46)) := hB3.alloc hB3.size _
    go_wp2_with (first | (refine Great.wpList_buildTo rfl 46 #[(0, .tmp 21)] rfl _ rfl (natC u zP) (built_natU u) ?_) | (refine store_nat rfl _ _ rfl rfl w3.heap.size u zP rfl rfl 0 zP C zP_len zP_len ?_; intro w4 hN4 hg4 hs4))
    have A4 : NatAt w4 w.heap.size i r := A3.grown hg4 (by simp; omega)
    have B5 : NatAt w4 (w.heap.size + 1) 0 zP := B4.grown hg4 (by simp; have := B3.lt; omega)
    have hB5 : Below w.heap.size w w4 := hB4.grown hg4 (by simp; have := hB3.size; omega) (by intro k hk; cases hk; have := hB3.size; omega)
    have hsl : (s : Int) ≤ 204 := by omega
    have hil : (i : Int) ≤ 204 := by omega
    refine held_begin (fun w' => NatAt w' w.heap.size i r) (by kernel_rfl) ?_
    have hS : NatAt w4.drew w.heap.size i r := A4
    refine held_val 0 (some 23) rfl rfl (by kernel_rfl) (by kernel_rfl) (by kernel_rfl) noPanic_put rfl (.pointer (some ⟨w3.heap.size, 1, none⟩)) (fun _ => by go_simp) hS ?_
    simp only [Act.put, List.setIfInBounds_toArray, List.set_cons_zero, List.set_cons_succ]
    refine held_val 1 (some 24) rfl rfl (by kernel_rfl) (by kernel_rfl) (by kernel_rfl) noPanic_put rfl (.int .i64 (s : Int)) (fun _ => by go_simp) hS ?_
    simp only [Act.put, List.setIfInBounds_toArray, List.set_cons_zero, List.set_cons_succ]
    refine held_val 2 (some 25) rfl rfl (by kernel_rfl) (by kernel_rfl) (by kernel_rfl) noPanic_put rfl (.slice (some ⟨w3.heap.size, 1 + s, none⟩) (204 - s) (204 - s)) (fun _ => by go_simp; omega) hS ?_
    simp only [Act.put, List.setIfInBounds_toArray, List.set_cons_zero, List.set_cons_succ]
    refine held_val 3 (some 26) rfl rfl (by kernel_rfl) (by kernel_rfl) (by kernel_rfl) noPanic_put rfl (.pointer (some ⟨w.heap.size, 1, none⟩)) (fun _ => by go_simp) hS ?_
    simp only [Act.put, List.setIfInBounds_toArray, List.set_cons_zero, List.set_cons_succ]
    refine held_val 4 (some 27) rfl rfl (by kernel_rfl) (by kernel_rfl) (by kernel_rfl) noPanic_put rfl (.pointer (some ⟨w.heap.size, 0, none⟩)) (fun _ => by go_simp) hS ?_
    simp only [Act.put, List.setIfInBounds_toArray, List.set_cons_zero, List.set_cons_succ]
    refine held_valS 5 (some 28) rfl rfl (by kernel_rfl) (by kernel_rfl) (by kernel_rfl) noPanic_put rfl (.int .i64 (i : Int)) (fun _ h => BL.run_cell1 (.tmp 27) 3 rfl ⟨w.heap.size, 0, none⟩ rfl _ Tryd.underlying3 rfl h.c0) hS ?_
    simp only [Act.put, List.setIfInBounds_toArray, List.set_cons_zero, List.set_cons_succ]
    refine held_val 6 (some 29) rfl rfl (by kernel_rfl) (by kernel_rfl) (by kernel_rfl) noPanic_put rfl (.slice (some ⟨w.heap.size, 1, none⟩) i 204) (fun _ => by go_simp) hS ?_
    simp only [Act.put, List.setIfInBounds_toArray, List.set_cons_zero, List.set_cons_succ]
    have hcp := run_copy_row Tryd.prog w4.drew 102 102 3 3 w3.heap.size (1 + s) (204 - s) (204 - s) ⟨w.heap.size, 1, none⟩ i 204 (natC u zP) 46 ((r.take i).map (Value.int .i64)) Tryd.underlying102 ints_info hN4 (by rw [List.length_map, List.length_take, hrl]; show min i 204 = min i (204 - s); omega) (fun j v hv => by
      rw [List.getElem?_map] at hv
      have hj : j < i := by
        rcases Nat.lt_or_ge j i with h | h
        · exact h
        · rw [List.getElem?_eq_none (by simp; omega)] at hv; cases hv
      rw [List.getElem?_take_of_lt hj, List.getElem?_eq_getElem (by omega)] at hv
      have h2 := hS.cs j (by omega)
      have e : (⟨w.heap.size, 1, none⟩ : Addr).add j = ⟨w.heap.size, 1 + j, none⟩ := by unfold Addr.add; split <;> simp_all
      rw [e, h2, ← hv]; simp [List.getD, show j < r.length by omega]) (by simp [natC_size, zP_len]; omega) (ints_one _)
    have hml : ((r.take i).map (Value.int .i64)).length = i := by rw [List.length_map, List.length_take, hrl]; omega
    rw [hml, up_cells u s i r h204] at hcp
    have hN6 : NatAt (w4.drew.setRow w3.heap.size (natC u (upP s i r))) w3.heap.size u (upP s i r) := setRow_heap w4.drew w3.heap.size _ _ _ _ hN4
    have hg6 : w4.grownBy (w4.drew.setRow w3.heap.size (natC u (upP s i r))) (some w3.heap.size) := ⟨rfl, rfl, rfl, by simp, fun k _ hne => setRow_other w4.drew w3.heap.size k _ (by intro e; exact hne (by rw [e]))⟩
    generalize w4.drew.setRow w3.heap.size (natC u (upP s i r)) = w6 at hcp hN6 hg6
    refine BL.held_ready 7 (some 30) (by kernel_rfl) rfl rfl rfl _ w6 (run_copy1 (.tmp 25) (.tmp 29) 102 rfl _ _ _ rfl rfl hcp) (A4.grown hg6 (by simp; omega)) ?_
    simp only [Act.put, List.setIfInBounds_toArray, List.set_cons_zero, List.set_cons_succ]
    refine wpAnyH_done (by kernel_rfl) ?_ _
    refine NoPanic.normal ?_
    have hul : (upP s i r).length = 204 := upP_len h204 hrl
    have B7 : NatAt w6 (w.heap.size + 1) 0 zP := B5.grown hg6 (by simp; have := B3.lt; omega)
    have hB7 : Below w.heap.size w w6 := hB5.grown hg6 (by have := hB5.size; omega) (by intro k hk; cases hk; have := hB3.size; omega)
    go_wp2_with (first | (refine load_nat rfl _ rfl w3.heap.size rfl u (upP s i r) hN6 hul ?_) | (refine store_nat rfl _ _ rfl rfl (w.heap.size + 1) u (upP s i r) rfl rfl 0 zP B7 zP_len hul ?_; intro w8 hN8 hg8 hs8))
    refine bodyPost_ret (v := .agg (natC u (upP s i r))) (res_nat Tryd.results58 _ _ (w.heap.size + 1) _ _ rfl hN8 hul) rfl ⟨u, upP s i r, rfl, ?_, hB7.grown hg8 (by have := hB7.size; omega) (by intro k hk; cases hk; omega)⟩
    have hf := HR.out.up s h204 HIK.out.1
    rw [← HU.out, Nat.mul_assoc, ← Nat.pow_add, Nat.add_comm m, ← HD.out] at hf
    exact hf
end Go.Proofs.YtmfpnbmfcoahbaaDoor
