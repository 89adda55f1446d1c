/-
  What variable, shifted and substituted of the program make.
-/
import Derived.Test.YtbnagagdboeedaaImplRep
import Derived.Deep.QuietTactic
import Derived.BigQuiet
namespace Go.Proofs.Ytbnagagdboeedaa
open Go.RowKit
set_option linter.unusedVariables false

set_option maxHeartbeats 1000000 in
theorem variable_any (n : Int) (w : World) :
    Calls Try.prog 90 #[.int .i64 n] w fun e w' => (∃ b, e = .returned (.pointer (some ⟨b, 0, none⟩)) ∧ TrIn w' (fun x => w.heap.size ≤ x) (.var n) b) ∧ Below w.heap.size w w' := by
  have hz := zero_term.1
  have hK : KidsAt w (fun _ => False) (.slice none 0 0) [] := ⟨none, 0, rfl, fun h => absurd rfl h, fun p hp => by simp at hp⟩
  have HK := hideT' hK
  clear hK
  go_enter Try.func90, Try.ntmps90
  go_wp2_with fail
  refine (treeOf_any 1 n 0 _ [] w HK.out.pts (by simp) (by simp)).mono ?_
  intro e w2 hN
  obtain ⟨b', rfl, hbb, hTr, hB2⟩ := treeNew_at (t := .var n) HK.out (by simp [nodeOf]) hN
  have HF : Hid (TrIn w2 (fun x => w.heap.size ≤ x) (.var n) b' ∧ Below w.heap.size w w2) := ⟨TrIn.mono (fun x hx _ => by rcases hx with hx | hx; exact hx.elim; exact hx) hTr, hB2⟩
  clear hN hTr hB2
  go_wp2
  go_ret
  exact ⟨⟨b', rfl, HF.out.1⟩, HF.out.2⟩
/-- Variables from a number on moved. -/
def shiftV (d f0 : Int) (n : Int) (m : Nat) : Lm := if n - m < f0 then .var n else .var (n + d)
theorem shiftV_map (d f0 : Int) : ∀ (t : Lm) (m : Nat), mapV (shiftV d f0) t m = t.shift d (f0 + m)
  | .var n, m => by
    rw [mapV, shiftV, Lm.shift]
    by_cases h : n - (m : Int) < f0
    · rw [if_pos h, if_pos (by omega)]
    · rw [if_neg h, if_neg (by omega)]
  | .lam t, m => by rw [mapV, shiftV_map d f0 t (m + 1), Lm.shift]; congr 2; omega
  | .app s t, m => by rw [mapV, shiftV_map d f0 s m, shiftV_map d f0 t m, Lm.shift]

set_option maxHeartbeats 4000000 in
set_option maxRecDepth 100000 in
theorem shiftLeaf (w0 : World) (P0 : Nat → Prop) (bf bd : Nat) (d f0 : Int) (hd : -1000000 ≤ d ∧ d ≤ 1000000) (hf : -1000000 ≤ f0 ∧ f0 ≤ 1000000) (hbf : bf < w0.heap.size) (hbd : bd < w0.heap.size) (cf : w0.cell? ⟨bf, 0, none⟩ = some (.int .i64 f0)) (cd : w0.cell? ⟨bd, 0, none⟩ = some (.int .i64 d)) :
    LeafOk w0 P0 98 #[.pointer (some ⟨bf, 0, none⟩), .pointer (some ⟨bd, 0, none⟩)] (shiftV d f0) := by
  intro n b m w hB hT _ hm hn1 hn2
  have k1 := hT.name
  simp only [Lm.nm] at k1
  have hbl := hT.lt
  have kf : w.cell? ⟨bf, 0, none⟩ = some (.int .i64 f0) := by rw [hB.cell (p := ⟨bf, 0, none⟩) hbf]; exact cf
  have kd : w.cell? ⟨bd, 0, none⟩ = some (.int .i64 d) := by rw [hB.cell (p := ⟨bd, 0, none⟩) hbd]; exact cd
  have hws := hB.size
  have hdl : bd < w.heap.size := by omega
  have hfl : bf < w.heap.size := by omega
  have HT := hideT' hT
  obtain ⟨hd1, hd2⟩ := hd
  obtain ⟨hf1, hf2⟩ := hf
  have hw1 : IntKind.i64.wrap (n - (m : Int)) = n - (m : Int) := by rw [IntKind.wrap_i64]; omega
  have hw2 : IntKind.i64.wrap (n + d) = n + d := by rw [IntKind.wrap_i64]; omega
  clear hT cf cd hB
  show Calls Try.prog 98 #[.pointer (some ⟨b, 0, none⟩), .int .i64 (m : Int), .pointer (some ⟨bf, 0, none⟩), .pointer (some ⟨bd, 0, none⟩)] w _
  by_cases h : n - (m : Int) < f0
  · have HE : Hid (shiftV d f0 n m = .var n) := by unfold Hid shiftV; rw [if_pos h]
    go_enter Try.func98, Try.ntmps98
    go_wp2_with fail
    go_quiet (fail)
    go_wp2
    go_ret
    exact ⟨⟨b, rfl, by rw [HE.out]; exact TrIn.mono (fun x hx _ => .inl hx) (TrIn.drN HT.out _)⟩, below_drN (Below.refl _ _) _⟩
  · have HE : Hid (shiftV d f0 n m = .var (n + d)) := by unfold Hid shiftV; rw [if_neg h]
    go_enter Try.func98, Try.ntmps98
    go_wp2_with fail
    go_quiet (fail)
    go_wp2_with fail
    refine held_begin (fun w' => w'.cell? ⟨b, 1, none⟩ = some (.int .i64 n) ∧ w'.cell? ⟨bd, 0, none⟩ = some (.int .i64 d)) (by kernel_rfl) ?_
    have hS : w.drew.cell? ⟨b, 1, none⟩ = some (.int .i64 n) ∧ w.drew.cell? ⟨bd, 0, none⟩ = some (.int .i64 d) := ⟨k1, kd⟩
    refine held_valS 0 (some 17) rfl rfl (by kernel_rfl) (by kernel_rfl) (by kernel_rfl) noPanic_put rfl (.pointer (some ⟨b, 0, none⟩)) (fun _ _ => by go_simp) hS ?_
    simp only [Act.put, List.setIfInBounds_toArray, List.set_cons_zero, List.set_cons_succ]
    refine held_valS 1 (some 18) rfl rfl (by kernel_rfl) (by kernel_rfl) (by kernel_rfl) noPanic_put rfl (.pointer (some ⟨b, 0, none⟩)) (fun _ _ => by go_simp) hS ?_
    simp only [Act.put, List.setIfInBounds_toArray, List.set_cons_zero, List.set_cons_succ]
    refine held_valS 2 (some 19) rfl rfl (by kernel_rfl) (by kernel_rfl) (by kernel_rfl) noPanic_put rfl (.pointer (some ⟨b, 0, none⟩)) (fun _ _ => by go_simp) hS ?_
    simp only [Act.put, List.setIfInBounds_toArray, List.set_cons_zero, List.set_cons_succ]
    refine held_valS 3 (some 20) rfl rfl (by kernel_rfl) (by kernel_rfl) (by kernel_rfl) noPanic_put rfl (.pointer (some ⟨b, 1, none⟩)) (fun _ _ => by go_simp) hS ?_
    simp only [Act.put, List.setIfInBounds_toArray, List.set_cons_zero, List.set_cons_succ]
    refine held_valS 4 (some 21) rfl rfl (by kernel_rfl) (by kernel_rfl) (by kernel_rfl) noPanic_put rfl (.int .i64 n) (fun w' h => by have c := h.1; go_simp) hS ?_
    simp only [Act.put, List.setIfInBounds_toArray, List.set_cons_zero, List.set_cons_succ]
    refine held_valS 5 (some 22) rfl rfl (by kernel_rfl) (by kernel_rfl) (by kernel_rfl) noPanic_put rfl (.int .i64 d) (fun w' h => by have c := h.2; go_simp) hS ?_
    simp only [Act.put, List.setIfInBounds_toArray, List.set_cons_zero, List.set_cons_succ]
    refine held_valS 6 (some 23) rfl rfl (by kernel_rfl) (by kernel_rfl) (by kernel_rfl) noPanic_put rfl (.int .i64 (n + d)) (fun _ _ => by go_simp) hS ?_
    simp only [Act.put, List.setIfInBounds_toArray, List.set_cons_zero, List.set_cons_succ]
    refine held_call 7 (some 24) (by kernel_rfl) rfl rfl rfl 90 #[.int .i64 (n + d)] (by go_simp) _ (variable_any (n + d) _) ?_
    rintro e w5 ⟨⟨b', rfl, hT5⟩, hB5⟩
    have hS5 : w5.cell? ⟨b, 1, none⟩ = some (.int .i64 n) ∧ w5.cell? ⟨bd, 0, none⟩ = some (.int .i64 d) := ⟨by rw [hB5.cell (p := ⟨b, 1, none⟩) hbl]; exact k1, by rw [hB5.cell (p := ⟨bd, 0, none⟩) hdl]; exact kd⟩
    refine ⟨_, rfl, hS5, ?_⟩
    simp only [Act.put, List.setIfInBounds_toArray, List.set_cons_zero, List.set_cons_succ]
    refine held_assign 8 (some 6) (by kernel_rfl) rfl rfl _ rfl rfl (.pointer (some ⟨b', 0, none⟩)) rfl hS5 ?_
    simp only [Act.put, List.setIfInBounds_toArray, List.set_cons_zero, List.set_cons_succ]
    refine wpAnyH_done (by kernel_rfl) ?_ _
    refine NoPanic.normal ?_
    have HF := hideT' (And.intro hT5 hB5)
    go_wp2
    go_ret
    exact ⟨⟨b', rfl, by rw [HE.out]; exact TrIn.mono (fun x hx _ => .inr hx) HF.out.1⟩, ⟨HF.out.2.os, HF.out.2.tape, HF.out.2.output, HF.out.2.size, HF.out.2.block⟩⟩
theorem call_shifted1 : ∀ args w, (callFunc 98 args).run Try.prog w = .ok (.enter 98 args) w := enters_of Try.func98 (by kernel_rfl) rfl
set_option maxHeartbeats 2000000 in
/-- What shifted makes, in old blocks below those of wo and new ones. -/
theorem shifted_in (t : Lm) (b : Nat) (d f0 : Int) (P0 : Nat → Prop) (w : World) (hP : ∀ x, P0 x → x < w.heap.size) (hT : TrIn w P0 t b) (hs : t.sz ≤ 100000) (hbd : t.bd) (hd : -1000000 ≤ d ∧ d ≤ 1000000) (hf : -1000000 ≤ f0 ∧ f0 ≤ 1000000) :
    Calls Try.prog 61 #[.pointer (some ⟨b, 0, none⟩), .int .i64 d, .int .i64 f0] w fun e w' => (∃ b', e = .returned (.pointer (some ⟨b', 0, none⟩)) ∧ TrIn w' (fun x => P0 x ∨ w.heap.size ≤ x) (t.shift d f0) b') ∧ Below w.heap.size w w' := by
  obtain ⟨w0, hw0⟩ : ∃ w0, w0 = (w.alloc (.cells #[.int .i64 d] 3)).alloc (.cells #[.int .i64 f0] 3) := ⟨_, rfl⟩
  have hB0 : Below w.heap.size w w0 := by rw [hw0]; exact ((Below.refl _ _).alloc (Nat.le_refl _) _).alloc (by simp) _
  have hs0 : w0.heap.size = w.heap.size + 2 := by rw [hw0]; simp
  have cd : w0.cell? ⟨w.heap.size, 0, none⟩ = some (.int .i64 d) := by
    rw [hw0, cell_of_row _ _ _ _ _ _ (RowAt.old (RowAt.new w 3 #[.int .i64 d]) _)]; rfl
  have cf : w0.cell? ⟨w.heap.size + 1, 0, none⟩ = some (.int .i64 f0) := by
    have hr : RowAt w0 (w.heap.size + 1) 3 #[.int .i64 f0] := by
      rw [hw0]
      have := RowAt.new (w.alloc (.cells #[.int .i64 d] 3)) 3 #[.int .i64 f0]
      rwa [World.size_alloc] at this
    rw [cell_of_row _ _ _ _ _ _ hr]; rfl
  have hT0 : TrIn w0 P0 t b := TrIn.keep (w := w) hB0.size (fun x _ hx => hB0.block x hx) (fun x h hx => h) hT
  have hsh := shiftV_map d f0 t 0
  have HC := hideT' (replaced_any w0 P0 (fun x h => by have := hP x h; omega) 98 #[.pointer (some ⟨w.heap.size + 1, 0, none⟩), .pointer (some ⟨w.heap.size, 0, none⟩)] (shiftV d f0) call_shifted1 (shiftLeaf w0 P0 (w.heap.size + 1) w.heap.size d f0 hd hf (by omega) (by omega) cf cd) t.sz t (Nat.le_refl _) b 0 w0 (Below.refl _ _) hT0 (by rw [hsh, (Lm.shift_sz d t _).1]; omega) (by omega) hbd)
  rw [hsh] at HC
  have HE : Hid (t.shift d (f0 + ((0 : Nat) : Int)) = t.shift d f0) := by unfold Hid; congr 1; omega
  have HB0 := hideT' hB0
  clear hT hT0 cd cf hsh hbd hd hf hB0
  go_enter Try.func61, Try.ntmps61
  go_wp2_with fail
  rw [← hw0]
  refine HC.out.mono ?_
  rintro e w2 ⟨⟨b', rfl, hT2⟩, hB2⟩
  have HF : Hid (TrIn w2 (fun x => P0 x ∨ w.heap.size ≤ x) (t.shift d f0) b' ∧ Below w.heap.size w w2) := ⟨by rw [← HE.out]; exact TrIn.mono (fun x hx _ => hx.imp id (fun h => by omega)) hT2, HB0.out.trans (hB2.mono HB0.out.size)⟩
  clear hT2 hB2
  go_wp2
  go_ret
  exact ⟨⟨b', rfl, HF.out.1⟩, HF.out.2⟩
/-- What shifted makes. -/
theorem shifted_any (t : Lm) (b : Nat) (d f0 : Int) (w : World) (hT : TrIn w (fun _ => True) t b) (hs : t.sz ≤ 100000) (hbd : t.bd) (hd : -1000000 ≤ d ∧ d ≤ 1000000) (hf : -1000000 ≤ f0 ∧ f0 ≤ 1000000) :
    Calls Try.prog 61 #[.pointer (some ⟨b, 0, none⟩), .int .i64 d, .int .i64 f0] w fun e w' => (∃ b', e = .returned (.pointer (some ⟨b', 0, none⟩)) ∧ TrIn w' (fun _ => True) (t.shift d f0) b') ∧ Below w.heap.size w w' := by
  refine (shifted_in t b d f0 (fun x => x < w.heap.size) w (fun _ h => h) (TrIn.mono (fun x _ hx => hx) hT) hs hbd hd hf).mono ?_
  rintro e w2 ⟨⟨b', rfl, hT2⟩, hB2⟩
  exact ⟨⟨b', rfl, TrIn.mono (fun _ _ _ => trivial) hT2⟩, hB2⟩
end Go.Proofs.Ytbnagagdboeedaa
