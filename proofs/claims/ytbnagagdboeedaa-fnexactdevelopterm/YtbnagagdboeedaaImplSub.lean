/-
  What substituted of the program makes.
-/
import Derived.Test.YtbnagagdboeedaaImplShift
namespace Go.Proofs.Ytbnagagdboeedaa
open Go.RowKit
set_option linter.unusedVariables false

/-- A term put in for a variable. -/
def subV (k : Int) (s : Lm) (n : Int) (m : Nat) : Lm := if n - m < k then .var n else if k < n - m then .var (n - 1) else s.shift m 0
theorem subV_map (k : Int) (s : Lm) : ∀ (t : Lm) (m : Nat), mapV (subV k s) t m = t.sub k s m
  | .var n, m => by
    rw [mapV, subV, Lm.sub]
    by_cases h : n - (m : Int) < k
    · rw [if_pos h, if_pos (show n < k + (m : Int) by omega)]
    · by_cases h2 : k < n - (m : Int)
      · rw [if_neg h, if_pos h2, if_neg (show ¬ n < k + (m : Int) by omega), if_neg (show ¬ n = k + (m : Int) by omega)]
      · rw [if_neg h, if_neg h2, if_neg (show ¬ n < k + (m : Int) by omega), if_pos (show n = k + (m : Int) by omega)]
  | .lam t, m => by rw [mapV, subV_map k s t (m + 1), Lm.sub]
  | .app a b, m => by rw [mapV, subV_map k s a m, subV_map k s b m, Lm.sub]

set_option maxHeartbeats 4000000 in
set_option maxRecDepth 100000 in
theorem subLeaf (w0 : World) (P0 : Nat → Prop) (hP0 : ∀ x, P0 x → x < w0.heap.size) (bk bs bt : Nat) (k : Int) (s : Lm) (hk : -1000000 ≤ k ∧ k ≤ 1000000) (hss : s.sz ≤ 100000) (hsb : s.bd) (hbk : bk < w0.heap.size) (hbs : bs < w0.heap.size) (ck : w0.cell? ⟨bk, 0, none⟩ = some (.int .i64 k)) (cs : w0.cell? ⟨bs, 0, none⟩ = some (.pointer (some ⟨bt, 0, none⟩)))
    (hTs : TrIn w0 P0 s bt) : LeafOk w0 P0 130 #[.pointer (some ⟨bk, 0, none⟩), .pointer (some ⟨bs, 0, none⟩)] (subV k s) := by
  intro n b m w hB hT _ hm hn1 hn2
  have k1 := hT.name
  simp only [Lm.nm] at k1
  have hbl := hT.lt
  have kk : w.cell? ⟨bk, 0, none⟩ = some (.int .i64 k) := by rw [hB.cell (p := ⟨bk, 0, none⟩) hbk]; exact ck
  have ks : w.cell? ⟨bs, 0, none⟩ = some (.pointer (some ⟨bt, 0, none⟩)) := by rw [hB.cell (p := ⟨bs, 0, none⟩) hbs]; exact cs
  have hws := hB.size
  have HT := hideT' hT
  have HTS : Hid (TrIn w P0 s bt) := TrIn.keep (w := w0) hB.size (fun x _ hx => hB.block x hx) (fun _ h _ => h) hTs
  obtain ⟨hk1, hk2⟩ := hk
  have hw1 : IntKind.i64.wrap (n - (m : Int)) = n - (m : Int) := by rw [IntKind.wrap_i64]; omega
  have hw2 : IntKind.i64.wrap (n - 1) = n - 1 := by rw [IntKind.wrap_i64]; omega
  clear hT ck cs hB hTs
  show Calls Try.prog 130 #[.pointer (some ⟨b, 0, none⟩), .int .i64 (m : Int), .pointer (some ⟨bk, 0, none⟩), .pointer (some ⟨bs, 0, none⟩)] w _
  by_cases h : n - (m : Int) < k
  · have HE : Hid (subV k s n m = .var n) := by unfold Hid subV; rw [if_pos h]
    go_enter Try.func130, Try.ntmps130
    go_wp2
    go_ret
    exact ⟨⟨b, rfl, by rw [HE.out]; exact TrIn.mono (fun x hx _ => .inl hx) HT.out⟩, Below.refl _ _⟩
  · by_cases h2 : k < n - (m : Int)
    · have HE : Hid (subV k s n m = .var (n - 1)) := by unfold Hid subV; rw [if_neg h, if_pos h2]
      have HC := hideT' (variable_any (n - 1) w)
      go_enter Try.func130, Try.ntmps130
      go_wp2_with fail
      refine HC.out.mono ?_
      rintro e w2 ⟨⟨b', rfl, hT2⟩, hB2⟩
      have HF := hideT' (And.intro hT2 hB2)
      clear hT2 hB2
      go_wp2
      go_ret
      exact ⟨⟨b', rfl, by rw [HE.out]; exact TrIn.mono (fun x hx _ => .inr hx) HF.out.1⟩, HF.out.2⟩
    · have HE : Hid (subV k s n m = s.shift (m : Int) 0) := by unfold Hid subV; rw [if_neg h, if_neg h2]
      have HC := hideT' (shifted_in s bt (m : Int) 0 P0 w (fun x h => by have := hP0 x h; omega) HTS.out hss hsb ⟨by omega, by omega⟩ ⟨by omega, by omega⟩)
      go_enter Try.func130, Try.ntmps130
      go_wp2_with fail
      refine HC.out.mono ?_
      rintro e w2 ⟨⟨b', rfl, hT2⟩, hB2⟩
      have HF := hideT' (And.intro hT2 hB2)
      clear hT2 hB2
      go_wp2
      go_ret
      exact ⟨⟨b', rfl, by rw [HE.out]; exact HF.out.1⟩, HF.out.2⟩
theorem call_substituted1 : ∀ args w, (callFunc 130 args).run Try.prog w = .ok (.enter 130 args) w := enters_of Try.func130 (by kernel_rfl) rfl
set_option maxHeartbeats 2000000 in
/-- What substituted makes. -/
theorem substituted_in (t : Lm) (b : Nat) (k : Int) (s : Lm) (bt : Nat) (P : Nat → Prop) (w : World) (hT : TrIn w P t b) (hTs : TrIn w P s bt) (hs : t.sz ≤ 1000) (hss : s.sz ≤ 1000) (hbd : t.bd) (hsb : s.bd) (hk : -1000000 ≤ k ∧ k ≤ 1000000) :
    Calls Try.prog 106 #[.pointer (some ⟨b, 0, none⟩), .int .i64 k, .pointer (some ⟨bt, 0, none⟩)] w fun e w' => (∃ b', e = .returned (.pointer (some ⟨b', 0, none⟩)) ∧ TrIn w' (fun x => P x ∨ w.heap.size ≤ x) (t.sub k s 0) b') ∧ Below w.heap.size w w' := by
  obtain ⟨w0, hw0⟩ : ∃ w0, w0 = (w.alloc (.cells #[.int .i64 k] 3)).alloc (.cells #[.pointer (some ⟨bt, 0, none⟩)] 60) := ⟨_, rfl⟩
  have hB0 : Below w.heap.size w w0 := by rw [hw0]; exact ((Below.refl _ _).alloc (Nat.le_refl _) _).alloc (by simp) _
  have hs0 : w0.heap.size = w.heap.size + 2 := by rw [hw0]; simp
  have ck : w0.cell? ⟨w.heap.size, 0, none⟩ = some (.int .i64 k) := by
    rw [hw0, cell_of_row _ _ _ _ _ _ (RowAt.old (RowAt.new w 3 #[.int .i64 k]) _)]; rfl
  have cs : w0.cell? ⟨w.heap.size + 1, 0, none⟩ = some (.pointer (some ⟨bt, 0, none⟩)) := by
    have hr : RowAt w0 (w.heap.size + 1) 60 #[.pointer (some ⟨bt, 0, none⟩)] := by
      rw [hw0]
      have := RowAt.new (w.alloc (.cells #[.int .i64 k] 3)) 60 #[.pointer (some ⟨bt, 0, none⟩)]
      rwa [World.size_alloc] at this
    rw [cell_of_row _ _ _ _ _ _ hr]; rfl
  have hT0 : TrIn w0 (fun x => P x ∧ x < w.heap.size) t b := TrIn.keep (w := w) hB0.size (fun x _ hx => hB0.block x hx) (fun x h hx => ⟨h, hx⟩) hT
  have hTs0 : TrIn w0 (fun x => P x ∧ x < w.heap.size) s bt := TrIn.keep (w := w) hB0.size (fun x _ hx => hB0.block x hx) (fun x h hx => ⟨h, hx⟩) hTs
  have hsh := subV_map k s t 0
  have hbig : (t.sub k s 0).sz ≤ 1000000 := Nat.le_trans (Lm.sub_sz k s t 0).1 (Nat.le_trans (Nat.mul_le_mul hs hss) (by omega))
  have HC := hideT' (replaced_any w0 (fun x => P x ∧ x < w.heap.size) (fun x h => by have := h.2; omega) 130 #[.pointer (some ⟨w.heap.size, 0, none⟩), .pointer (some ⟨w.heap.size + 1, 0, none⟩)] (subV k s) call_substituted1 (subLeaf w0 (fun x => P x ∧ x < w.heap.size) (fun x h => by have := h.2; omega) w.heap.size (w.heap.size + 1) bt k s hk (by omega) hsb (by omega) (by omega) ck cs hTs0) t.sz t (Nat.le_refl _) b 0 w0 (Below.refl _ _) hT0 (by rw [hsh]; exact hbig) (by omega) hbd)
  rw [hsh] at HC
  have HB0 := hideT' hB0
  clear hT hT0 hTs hTs0 ck cs hsh hbd hsb hk hB0 hbig
  go_enter Try.func106, Try.ntmps106
  go_wp2_with fail
  rw [← hw0]
  refine HC.out.mono ?_
  rintro e w2 ⟨⟨b', rfl, hT2⟩, hB2⟩
  have HF : Hid (TrIn w2 (fun x => P x ∨ w.heap.size ≤ x) (t.sub k s 0) b' ∧ Below w.heap.size w w2) := ⟨TrIn.mono (fun x hx _ => by rcases hx with hx | hx; exact .inl hx.1; exact .inr (by omega)) hT2, HB0.out.trans (hB2.mono HB0.out.size)⟩
  clear hT2 hB2
  go_wp2
  go_ret
  exact ⟨⟨b', rfl, HF.out.1⟩, HF.out.2⟩
theorem substituted_any (t : Lm) (b : Nat) (k : Int) (s : Lm) (bt : Nat) (w : World) (hT : TrIn w (fun _ => True) t b) (hTs : TrIn w (fun _ => True) s bt) (hs : t.sz ≤ 1000) (hss : s.sz ≤ 1000) (hbd : t.bd) (hsb : s.bd) (hk : -1000000 ≤ k ∧ k ≤ 1000000) :
    Calls Try.prog 106 #[.pointer (some ⟨b, 0, none⟩), .int .i64 k, .pointer (some ⟨bt, 0, none⟩)] w fun e w' => (∃ b', e = .returned (.pointer (some ⟨b', 0, none⟩)) ∧ TrIn w' (fun _ => True) (t.sub k s 0) b') ∧ Below w.heap.size w w' := by
  refine (substituted_in t b k s bt (fun _ => True) w hT hTs hs hss hbd hsb hk).mono ?_
  rintro e w2 ⟨⟨b', rfl, hT2⟩, hB2⟩
  exact ⟨⟨b', rfl, TrIn.mono (fun _ _ _ => trivial) hT2⟩, hB2⟩
end Go.Proofs.Ytbnagagdboeedaa
