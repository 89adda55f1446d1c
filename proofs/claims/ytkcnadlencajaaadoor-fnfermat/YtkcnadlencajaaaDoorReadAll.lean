/-
  What impl.readAll answers: rows of nats in memory.
-/
import Derived.Test.YtkcnadlencajaaaDoorRecString
import Derived.Test.YtkcnadlencajaaaDoorRecs
import Derived.Test.YtkcnadlencajaaaDoorPkRead
namespace Go.Proofs.YtkcnadlencajaaaDoor
open Go.RowKit
set_option linter.unusedVariables false

abbrev PartsX : Type := {p : List Int // p.length = 204}
instance : Inhabited PartsX := ⟨⟨zP, zP_len⟩⟩
abbrev NatX : Type := Int × PartsX
def natXL (x : NatX) : List Value := (x.1 :: x.2.1).map (Value.int .i64)
theorem natXL_len (x : NatX) : (natXL x).length = 205 := by simp [natXL, x.2.2]
theorem natXL_one (x : NatX) : ∀ u ∈ natXL x, u.oneCell' = true := by
  intro u hu
  simp only [natXL, List.mem_map] at hu
  obtain ⟨y, _, rfl⟩ := hu; rfl
def zN : NatX := (0, ⟨zP, zP_len⟩)
theorem nat_all : ∃ i, Tryd.prog.info? 57 = some i ∧ i.zero = some (.agg (natC 0 zP)) ∧ i.size = 205 ∧ i.bytes = 1640 := by
  have h : (Tryd.prog.info? 57).map (fun i => (i.zero, i.size, i.bytes)) = some (some (.agg (natC 0 zP)), 205, 1640) := by kernel_rfl
  cases hq : Tryd.prog.info? 57 with
  | none => simp [hq] at h
  | some i => simp [hq] at h; exact ⟨i, rfl, h.1, h.2.1, h.2.2⟩
theorem make_nats (n : Nat) (hn : n ≤ 1000) (w : World) : (Instr.makeSlice 77 (.int .i64 (n : Int)) (.int .i64 (n : Int))).run Tryd.prog w = .ok (.slice (some ⟨w.heap.size, 0, none⟩) n n) (w.alloc (.cells ((List.replicate n zN).flatMap natXL).toArray 57)) := by
  obtain ⟨i, hi, hz, hs, hb⟩ := nat_all
  have hr := run_make (P := Tryd.prog) w 77 57 i _ Tryd.underlying77 hi hz .i64 .i64 n n (by omega) (Int.le_refl _) (by rw [hb]; omega) (by omega)
  simp only [Int.toNat_natCast, hs] at hr
  rw [hr, ← made_rec natXL 205 natXL_len _ zN (by rfl) n]
  rfl
/-- The nats that texts tell. -/
def AllNats (l : List ByteArray) (ys : List NatX) : Prop := ys.length = l.length ∧ ∀ i, i < l.length → ∃ k : Nat, (ys.getD i default).1 = (k : Int) ∧ Rep (dval (l.getD i default).data.toList) k (ys.getD i default).2.1
/-- What readAll answers. -/
def RaAns (l : List ByteArray) (w : World) (e : Ending) (w' : World) : Prop :=
  (l.all (fun s => goodB s.data.toList) = true ∧ ∃ (B : Nat) (ys : List NatX), e = .returned (.tuple #[.slice (some ⟨B, 0, none⟩) l.length l.length, .bool true]) ∧ w.heap.size ≤ B ∧ RecAt w' B 57 natXL ys ∧ AllNats l ys ∧ Below w.heap.size w w') ∨
  (l.all (fun s => goodB s.data.toList) = false ∧ e = .returned (.tuple #[.slice none 0 0, .bool false]) ∧ Below w.heap.size w w')
theorem put_next (ys : List NatX) (n : Nat) (h : ys.length < n) (d : NatX) : (ys ++ List.replicate (n - ys.length) zN).set ys.length d = (ys ++ [d]) ++ List.replicate (n - (ys ++ [d]).length) zN := by
  rw [List.set_append_right _ _ (Nat.le_refl _), Nat.sub_self, show n - ys.length = (n - (ys ++ [d]).length) + 1 by simp; omega, List.replicate_succ, List.set_cons_zero, List.append_assoc]; rfl

set_option maxHeartbeats 4000000 in
set_option maxRecDepth 100000 in
theorem readAll_any (l : List ByteArray) (b cap : Nat) (w : World) (hl1 : 1 ≤ l.length) (hl2 : l.length ≤ 20) (hs : ∀ i, i < l.length → (l.getD i default).size ≤ maxLen) (hR : RecAt w b 9 stringL l) :
    Calls Tryd.prog 55 #[.slice (some ⟨b, 0, none⟩) l.length cap] w fun e w' => RaAns l w e w' := by
  have hz := zero_nat.1
  obtain ⟨n, hn⟩ : ∃ n, n = l.length := ⟨_, rfl⟩
  have hmk := make_nats n (by omega)
  have hblt := RecAt.lt hR
  have HR := hide hR
  have HN := hide hn
  have HSZ := hide hs
  have hn1 : 1 ≤ n := by omega
  have hn20 : (n : Int) ≤ 20 := by omega
  rw [← hn]
  have HROW := hide (show RecAt (w.alloc (.cells ((List.replicate n zN).flatMap natXL).toArray 57)) w.heap.size 57 natXL (List.replicate n zN) from RowAt.new w 57 _)
  have hB : Below w.heap.size w (w.alloc (.cells ((List.replicate n zN).flatMap natXL).toArray 57)) := (Below.refl _ _).alloc (Nat.le_refl _) _
  clear hR hn hs hl1 hl2
  go_enter Tryd.func55, Tryd.ntmps55
  go_wp2_with fail
  clear hmk
  go_loopg [14] n (fun g i wr => ∃ (j : Nat) (ys : List NatX), g = n - j ∧ j ≤ n ∧ i = .int .i64 (j : Int) ∧ Hid (ys.length = j ∧ ∀ i, i < j → goodB (l.getD i default).data.toList = true ∧ ∃ k : Nat, (ys.getD i default).1 = (k : Int) ∧ Rep (dval (l.getD i default).data.toList) k (ys.getD i default).2.1) ∧ Hid (RecAt wr w.heap.size 57 natXL (ys ++ List.replicate (n - ys.length) zN)) ∧ Hid (Below w.heap.size w wr))
  case atStart => exact ⟨0, [], rfl, by omega, rfl, ⟨rfl, fun i hi => by omega⟩, HROW.out, hB⟩
  case round =>
    obtain ⟨j, ys, hg, hj, rfl, HY, HRW, HBL⟩ := hrel
    have hws := HBL.out.size
    have hrl := RecAt.lt HRW.out
    by_cases hlt : (j : Int) < (n : Int)
    · have hjl : j < l.length := by have := HN.out; omega
      obtain ⟨s, hs⟩ : ∃ s, s = l.getD j default := ⟨_, rfl⟩
      have hcell : wr.cell? ⟨b, j, none⟩ = some (.string s) := by
        have h1 := (HR.out.below HBL.out hblt).cell (c := 1) (fun _ => rfl) j 0 hjl (by decide)
        rw [Nat.mul_one, Nat.add_zero] at h1
        rw [h1, hs]; rfl
      have hsz : s.size ≤ maxLen := by rw [hs]; exact HSZ.out j hjl
      have HS := hide hs
      clear hs
      go_wp2_with fail
      refine (readNat_any s _ hsz).mono ?_
      rintro e w1 ⟨k, p, oa, rfl, hRa, hW1⟩
      have hp := hRa.len
      have hs1 := hW1.size
      have A := NatAt.new w1 0 zP
      have hok : oa = goodB s.data.toList := hRa.ok
      have hB1 : Below w.heap.size w w1 := HBL.out.trans (hW1.mono hws)
      have HRW1 : Hid (RecAt (w1.alloc (.cells (natC 0 zP) 57)) w.heap.size 57 natXL (ys ++ List.replicate (n - ys.length) zN)) := RowAt.old (HRW.out.below hW1 hrl) _
      cases hgd : oa with
      | true =>
        have hgood : goodB s.data.toList = true := by rw [← hok]; exact hgd
        have HG := hide (And.intro hgood (hRa.rep hgood))
        clear hgd hok hRa hgood hW1
        have hlen : (ys ++ List.replicate (n - ys.length) zN).length = n := by simp; have := HY.out.1; omega
        have HLN := hide hlen
        clear hlen
        go_wp2_with (first | (refine store_nat rfl _ _ rfl rfl w1.heap.size k p rfl rfl 0 zP A zP_len hp ?_; intro w2 hN2 hg2 hs2) | (refine load_nat rfl _ rfl w1.heap.size rfl k p hN2 hp ?_) | (refine store_rec rfl 57 _ _ rfl rfl natXL 205 natXL_len natXL_one zero_nat.2 w.heap.size j ((k : Int), (⟨p, hp⟩ : PartsX)) rfl rfl _ (RowAt.grown HRW1.out hg2 (by simp; omega)) (by rw [HLN.out]; omega) ?_; intro w3 hD3 hg3 hs3))
        go_roundg (n - (j + 1))
        case measure => omega
        case rel =>
          have hyl := HY.out.1
          have hD4 : RecAt w3 w.heap.size 57 natXL ((ys ++ [((k : Int), (⟨p, hp⟩ : PartsX))]) ++ List.replicate (n - (ys ++ [((k : Int), (⟨p, hp⟩ : PartsX))]).length) zN) := by
            rw [← put_next ys n (by omega), hyl]
            rw [hyl] at hD3
            exact hD3
          refine ⟨j + 1, ys ++ [((k : Int), (⟨p, hp⟩ : PartsX))], rfl, by omega, by go_num, ⟨by simp [hyl], fun i hi => ?_⟩, hD4, ?_⟩
          · by_cases e : i = j
            · subst e
              rw [← HS.out]
              refine ⟨HG.out.1, k, ?_, ?_⟩
              · simp [List.getD, ← hyl]
              · have e2 : (ys ++ [((k : Int), (⟨p, hp⟩ : PartsX))]).getD i default = ((k : Int), (⟨p, hp⟩ : PartsX)) := by simp [List.getD, ← hyl]
                rw [e2]; exact HG.out.2
            · have := HY.out.2 i (by omega)
              have e2 : (ys ++ [((k : Int), (⟨p, hp⟩ : PartsX))]).getD i default = ys.getD i default := by
                simp only [List.getD]; rw [List.getElem?_append_left (by omega)]
              rw [e2]; exact this
          · exact ((hB1.alloc hB1.size _).grown hg2 (by simp; have := hB1.size; omega) (by intro k hk; cases hk; have := hB1.size; omega)).grown hg3 (by rw [hs2]; simp; have := hB1.size; omega) (by intro k hk; cases hk; omega)
      | false =>
        have HA : Hid (l.all (fun s => goodB s.data.toList) = false) := by
          unfold Hid
          rw [List.all_eq_false]
          refine ⟨s, ?_, by rw [← hok, hgd]; decide⟩
          rw [HS.out]
          simp [List.getD, hjl]
        clear hgd hok hRa
        go_wp2_with (refine store_nat rfl _ _ rfl rfl w1.heap.size k p rfl rfl 0 zP A zP_len hp ?_; intro w2 hN2 hg2 hs2)
        go_ret2
        exact .inr ⟨HA.out, rfl, (hB1.alloc hB1.size _).grown hg2 (by simp; have := hB1.size; omega) (by intro k hk; cases hk; have := hB1.size; omega)⟩
    · have hjn : j = n := by omega
      have HE : Hid (l.all (fun s => goodB s.data.toList) = true ∧ RecAt wr w.heap.size 57 natXL ys ∧ AllNats l ys) := by
        have hnl := HN.out
        refine ⟨?_, ?_, by have := HY.out.1; omega, fun i hi => (HY.out.2 i (by omega)).2⟩
        · rw [List.all_eq_true]
          intro s hs
          obtain ⟨i, hi, rfl⟩ := List.getElem_of_mem hs
          have := (HY.out.2 i (by omega)).1
          simpa [List.getD, hi] using this
        · have := HRW.out
          rw [HY.out.1, hjn, Nat.sub_self, List.replicate_zero, List.append_nil] at this
          exact this
      clear hjn
      go_wp2
      go_ret2
      exact .inl ⟨HE.out.1, w.heap.size, ys, by rw [← HN.out]; rfl, Nat.le_refl _, HE.out.2.1, HE.out.2.2, HBL.out⟩
end Go.Proofs.YtkcnadlencajaaaDoor
