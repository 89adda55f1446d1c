/-
  What FreeIn and closedTerm of the program answer.
-/
import Derived.Test.YtbnagagdboeedaaImplFree
namespace Go.Proofs.Ytbnagagdboeedaa
open Go.RowKit Go.Shelf BL
set_option linter.unusedVariables false

set_option maxHeartbeats 4000000 in
theorem implFreeIn_any (l : List Nd) (v : Value) (w : World) (hv : NdIn w v l) (hl : l.length ≤ 1048576) :
    Calls Try.prog 18 #[v] w fun e w' => (∃ u, e = .returned (.tuple #[u, .bool (FrIB l)]) ∧ OwnR w' w.heap.size u 3 intL 1 (FrIL l)) ∧ Below w.heap.size w w' := by
  have HC := hideT' (readTree_any l v w hv hl)
  clear hv
  go_enter Try.func18, Try.ntmps18
  go_wp2_with fail
  refine HC.out.mono ?_
  rintro e w1 ⟨hans, hB1⟩
  have HB1 := hideT' hB1
  clear hB1
  rcases hans with ⟨p, rfl, hn⟩ | ⟨t, b, rfl, hr, hT⟩
  · have HN : Hid (FrIB l = false ∧ FrIL l = []) := ⟨by unfold FrIB; rw [hn], by unfold FrIL; rw [hn]⟩
    clear hn
    go_wp2
    go_ret2
    exact ⟨⟨_, by rw [HN.out.1]; rfl, by rw [HN.out.2]; exact World.ownsRow_nil _ _ _ _⟩, HB1.out⟩
  · have HN : Hid (FrIB l = true ∧ FrIL l = FrL t) := ⟨by unfold FrIB; rw [hr], by unfold FrIL; rw [hr]⟩
    have f1 := readP'_facts hr
    have HC2 := hideT' (freeIn_any t b _ w1 hT (by omega) f1.2.2.2.1)
    clear hr hT f1
    go_wp2_with fail
    refine HC2.out.mono ?_
    rintro e w2 ⟨⟨u, rfl, hO⟩, hB2⟩
    have HO := hideT' hO
    have HB2 : Hid (Below w.heap.size w w2) := HB1.out.trans (hB2.mono HB1.out.size)
    clear hO hB2
    go_wp2
    go_ret2
    exact ⟨⟨_, by rw [HN.out.1]; rfl, by rw [HN.out.2]; exact own_baseB HO.out HB1.out.size⟩, HB2.out⟩

/-- What closedTerm answers. -/
def ClAns (w : World) (l : List Nd) (e : Ending) (w' : World) : Prop :=
  (∃ p, e = .returned (.tuple #[.pointer p, .bool false]) ∧ clR l = none) ∨ ∃ t b, e = .returned (.tuple #[.pointer (some ⟨b, 0, none⟩), .bool true]) ∧ clR l = some t ∧ TrIn w' (fun x => w.heap.size ≤ x) t b
set_option maxHeartbeats 4000000 in
theorem closedTerm_any (l : List Nd) (v : Value) (w : World) (hv : NdIn w v l) (hl : l.length ≤ 1048576) :
    Calls Try.prog 77 #[v] w fun e w' => ClAns w l e w' ∧ Below w.heap.size w w' := by
  have HC := hideT' (readTree_any l v w hv hl)
  clear hv
  go_enter Try.func77, Try.ntmps77
  go_wp2_with fail
  refine HC.out.mono ?_
  rintro e w1 ⟨hans, hB1⟩
  have HB1 := hideT' hB1
  clear hB1
  rcases hans with ⟨p, rfl, hn⟩ | ⟨t, b, rfl, hr, hT⟩
  · have HN := hideT' (clR_none hn)
    clear hn
    go_wp2
    go_ret2
    exact ⟨.inl ⟨_, rfl, HN.out⟩, HB1.out⟩
  · have f1 := readP'_facts hr
    have HC2 := hideT' (freeIn_any t b _ w1 hT (by omega) f1.2.2.2.1)
    have HT := hideT' hT
    obtain ⟨n, hn⟩ : ∃ n, n = (FrL t).length := ⟨_, rfl⟩
    have HNN : Hid (n = 0 ↔ t.free 0 = []) := by
      unfold Hid
      rw [hn, List.length_eq_zero_iff]; exact FrL_nil f1.2.2.2.1
    have HNL := hideT' hn
    have HR := hideT' hr
    clear hr hT f1 hn
    go_wp2_with fail
    refine HC2.out.mono ?_
    rintro e w2 ⟨⟨u, rfl, hO⟩, hB2⟩
    obtain ⟨o, cap, rfl⟩ := own_formT hO
    rw [← HNL.out]
    have HT2 : Hid (TrIn w2 (fun x => w.heap.size ≤ x) t b) := TrIn.keep (w := w1) hB2.size (fun x _ hx => hB2.block x hx) (fun x h _ => h) HT.out
    have HB2 : Hid (Below w.heap.size w w2) := HB1.out.trans (hB2.mono HB1.out.size)
    clear hO hB2
    by_cases h0 : n = 0
    · have HA := hideT' (clR_ok HR.out (HNN.out.1 h0))
      subst h0
      go_wp2
      go_ret2
      exact ⟨.inr ⟨t, b, rfl, HA.out, HT2.out⟩, HB2.out⟩
    · have HA := hideT' (clR_no HR.out (fun e => h0 (HNN.out.2 e)))
      have hni : ¬ (n : Int) = 0 := by omega
      have hnb : ((n : Int) == 0) = false := by simpa using hni
      go_wp2
      go_ret2
      exact ⟨.inl ⟨_, rfl, HA.out⟩, HB2.out⟩
end Go.Proofs.Ytbnagagdboeedaa
