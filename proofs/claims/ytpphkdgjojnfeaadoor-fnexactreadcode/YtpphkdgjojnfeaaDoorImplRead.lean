/-
  What impl.ReadCode answers.
-/
import Derived.Test.YtpphkdgjojnfeaaDoorLinesIt
import Derived.Test.YtpphkdgjojnfeaaDoorReadIns2
import Derived.Test.YtpphkdgjojnfeaaDoorSpecRead
import Derived.Test.YtpphkdgjojnfeaaDoorImplCode
import Derived.Maps.AppendAt
import Derived.RangeFuncBox
namespace Go.Proofs.YtpphkdgjojnfeaaDoor
open Go.RowKit Go.Shelf
set_option linter.unusedVariables false
attribute [local go_sem] Oper.semAt_some

set_option maxHeartbeats 1000000 in
theorem lines_any (s : ByteArray) (w : World) :
    Calls Tryd.prog 24 #[.string s] w fun e w' => e = .returned (.func (.func 35) #[] #[.pointer (some ⟨w.heap.size, 0, none⟩)]) ∧ w' = w.alloc (.cells #[.string s] 9) := by
  go_enter Tryd.func24, Tryd.ntmps24
  go_wp2
  go_ret
  exact ⟨rfl, rfl⟩

theorem count_ins {x : Ins} (h : insOk x = true) : (insTxt x).count 10 = 1 := by
  rw [insTxt_line, List.count_append]
  have : (insLine x).count 10 = 0 := List.count_eq_zero.2 (fun hm => by have := line_no10 h; rw [List.contains_iff_mem.2 hm] at this; cases this)
  rw [this]; rfl
theorem count_code : ∀ (L : List Ins), L.all insOk = true → (codeTxt L).count 10 = L.length
  | [], _ => rfl
  | x :: M, h => by
    simp only [List.all_cons, Bool.and_eq_true] at h
    rw [codeTxt_cons, List.count_append, count_ins h.1, count_code M h.2, List.length_cons]; omega
theorem count_sol {s : List UInt8} {L : List Ins} (h : Sol s L) : Lib.countByte s 10 ≤ 3000 := by
  have h1 := codeOk_parts h.1
  unfold Lib.countByte
  rw [← h.2, count_code L h1.2]; exact h1.1
theorem trim_line (l : List UInt8) : Lib.trimSuffix (l ++ [10]) [10] = l := by
  unfold Lib.trimSuffix Lib.hasSuffix
  rw [if_pos (by rw [List.isSuffixOf_iff_suffix]; exact List.suffix_append l [10])]
  simp
theorem trim_len (l p : List UInt8) : (Lib.trimSuffix l p).length ≤ l.length := by
  unfold Lib.trimSuffix
  split
  · rw [List.length_take]; omega
  · exact Nat.le_refl _
theorem nx_pos {s : List UInt8} {pre : List ByteArray} {x : ByteArray} (h : NxL s pre x) : 1 ≤ x.size ∧ (pre.map (·.size)).sum + x.size ≤ s.length := by
  have h1 := nextL_app (restOf s pre)
  have h2 : x.data.toList.length = x.size := by simp
  have h3 : (nextL (restOf s pre)).1 ≠ [] := by
    unfold nextL
    split
    · simp
    · exact h.1
  have h4 : (restOf s pre).length = s.length - (pre.map (·.size)).sum := by unfold restOf; rw [List.length_drop]
  have h5 := congrArg List.length h1
  rw [List.length_append, ← h.2, h2, h4] at h5
  have h6 : x.data.toList ≠ [] := by rw [h.2]; exact h3
  have h7 : x.size ≠ 0 := fun e => h6 (List.length_eq_zero_iff.1 (by rw [h2]; exact e))
  have h8 : (restOf s pre).length ≠ 0 := fun e => h.1 (List.length_eq_zero_iff.1 e)
  omega
/-- What a line that comes next says of the solutions. -/
theorem nx_line {s : List UInt8} {l : List Ins} {pre : List ByteArray} {x : ByteArray} (hA : Ahead s l (restOf s pre)) (hN : NxL s pre x) (y : Ins) (q : Bool)
    (hy : ∀ z, insOk z = true → Lib.trimSuffix x.data.toList [10] = insLine z → q = true ∧ y = z) : (q = false → ∀ L, ¬ Sol s L) ∧ Ahead s (l ++ [y]) (restOf s (pre ++ [x])) := by
  have key : ∀ z M, insOk z = true → restOf s pre = insTxt z ++ codeTxt M → (q = true ∧ y = z) ∧ restOf s (pre ++ [x]) = codeTxt M := fun z M hz e => by
    have h1 := cut_line hz (codeTxt M)
    rw [← e] at h1
    have h2 : nextL (restOf s pre) = (insLine z ++ [10], codeTxt M) := by unfold nextL; rw [h1]; rfl
    refine ⟨hy z hz (by rw [hN.2, h2]; exact trim_line _), ?_⟩
    rw [restOf_snoc hN, h2]
  refine ⟨fun hq L hL => ?_, hA.step hN.1 fun z M hz e => ⟨(key z M hz e).1.2, (key z M hz e).2⟩⟩
  obtain ⟨z, M, hz, _, e, _, _⟩ := hA.next hN.1 hL
  have := (key z M hz e).1.1
  rw [hq] at this; cases this

theorem keeps_below {W W' : World} (h : Below W.heap.size W W') : KeepsOthers W W' := ⟨h.size, fun k o hk _ => (h.block k (Array.getElem?_eq_some_iff.1 hk).1).trans hk⟩
/-- An append to what a box holds. -/
theorem box_append {W w1 : World} {n₀ B : Nat} {t e : TypeId} {size : Nat} {v v' : Value} {k m : Nat} {xs ys : List Value} {tmp : Obj} (hv : Boxed W B t v) (hte : t ≠ e) (hrow : W.ownsRow n₀ e size v k xs)
    (hown' : w1.ownsRow n₀ e size v' m ys) (hgrow : (W.alloc tmp).grownBy w1 v.ownBlock) :
    Boxed w1 B t v ∧ Boxed (w1.setCell ⟨B, 0, none⟩ v') B t v' ∧ (w1.setCell ⟨B, 0, none⟩ v').ownsRow n₀ e size v' m ys ∧ KeepsOthers W (w1.setCell ⟨B, 0, none⟩ v') ∧ W.heap.size ≤ (w1.setCell ⟨B, 0, none⟩ v').heap.size ∧ (∀ j, j < W.heap.size → j ≠ B → j < n₀ → (w1.setCell ⟨B, 0, none⟩ v').heap[j]? = W.heap[j]?) ∧ ((w1.setCell ⟨B, 0, none⟩ v').os = W.os ∧ (w1.setCell ⟨B, 0, none⟩ v').tape = W.tape ∧ (w1.setCell ⟨B, 0, none⟩ v').output = W.output) := by
  have hv1 : Boxed w1 B t v := (hv.alloc tmp).kept hgrow (hv.not_row hte hrow)
  have hg2 := grownBy_setCell' w1 B v'
  have hsz := hgrow.size
  rw [World.size_alloc] at hsz
  refine ⟨hv1, hv1.set v', hown'.kept hg2 (.inr (hv1.not_row hte hown').symm), ?_, by have := hg2.size; omega, fun j hj hB hn => ?_, hg2.os.trans hgrow.os, hg2.tape.trans hgrow.tape, hg2.output.trans hgrow.output⟩
  · refine ((KeepsOthers.alloc W tmp).trans (KeepsOthers.of_grownBy hgrow fun j o ej hj => ?_)).trans (KeepsOthers.setCell _ _ _)
    rcases (hrow.alloc tmp).2 with ⟨rfl, _⟩ | ⟨g, cap, cur, rfl, _, hgb, _⟩
    · simp [Value.ownBlock] at ej
    · obtain rfl : g = j := by simpa [Value.ownBlock] using ej
      rw [hgb] at hj; cases hj; rfl
  · rw [hg2.block j (by omega) (by intro e; injection e with e; exact hB e), hgrow.block j (by rw [World.size_alloc]; omega) ?_, Below.heap_alloc _ _ _ hj]
    intro e
    have := (hrow.lt j e.symm).1
    omega

theorem res_two {b2 b3 : Nat} {tmps : Array Value} {w : World} {u v : Value} (h2 : tmps[2]? = some (.pointer (some ⟨b2, 0, none⟩))) (h3 : tmps[3]? = some (.pointer (some ⟨b3, 0, none⟩))) (c2 : w.cell? ⟨b2, 0, none⟩ = some u) (c3 : w.cell? ⟨b3, 0, none⟩ = some v) :
    (results Tryd.f11 tmps).run Tryd.prog w = .ok (.tuple #[u, v]) w := by
  have a1 : ∀ w, (isAgg 26).run Tryd.prog w = .ok false w := run_isAgg_plain Tryd.underlying26 rfl
  have a2 : ∀ w, (isAgg 4).run Tryd.prog w = .ok false w := run_isAgg_plain Tryd.underlying4 rfl
  simp [results, Tryd.results11, go_sem, h2, h3, c2, c3, a1, a2]
theorem put_below {W w : World} {D : Nat} {o o' : Obj} (h : Below w.heap.size w W) (hK : W.heap[D]? = some o) (hD : w.heap.size ≤ D) : Below w.heap.size w (W.putObj D o') :=
  h.grown (grownBy_putObj' W D o') h.size (fun k e => by cases e; exact hD)
theorem box_put {W : World} {B D : Nat} {t : TypeId} {v : Value} {o o' : Obj} (h : Boxed W B t v) (hK : W.heap[D]? = some o) (ho : o.isCells = false) : Boxed (W.putObj D o') B t v := h.kept (grownBy_putObj' W D o') (fun e => by
  cases e
  rw [show W.heap[B]? = _ from h] at hK; cases hK; cases ho)

theorem leave_two {w V : World} {D : Nat} {tmps : Array Value} {s : List UInt8} {u q : Value} (h2 : tmps[2]? = some (.pointer (some ⟨w.heap.size, 0, none⟩))) (h3 : tmps[3]? = some (.pointer (some ⟨w.heap.size + 1, 0, none⟩))) (b2 : Boxed V w.heap.size 26 u) (b3 : Boxed V (w.heap.size + 1) 4 q)
    (hK : V.heap[D]? = some (.deferred (some []))) (hD : w.heap.size ≤ D) (hB : Below w.heap.size w V) (hR : ReadC s w (.returned (.tuple #[u, q])) (V.putObj D (.deferred none))) :
    LeavesInM Fence.wide 3 Tryd.prog Tryd.f11 tmps (fun e w' => ReadC s w e w' ∧ Below w.heap.size w w') [{ target := .collected D, args := #[] }] .returning V :=
  ⟨by simp, .inl ⟨_, _, rfl, run_takeDeferred hK, _, res_two h2 h3 (box_put b2 hK rfl).cell (box_put b3 hK rfl).cell, hR, put_below hB hK hD⟩⟩
theorem set_two {w V : World} {u q u' q' : Value} (b2 : Boxed V w.heap.size 26 u) (b3 : Boxed V (w.heap.size + 1) 4 q) :
    Boxed ((V.setCell ⟨w.heap.size, 0, none⟩ u').setCell ⟨w.heap.size + 1, 0, none⟩ q') w.heap.size 26 u' ∧ Boxed ((V.setCell ⟨w.heap.size, 0, none⟩ u').setCell ⟨w.heap.size + 1, 0, none⟩ q') (w.heap.size + 1) 4 q' :=
  ⟨(b2.set u').kept (grownBy_setCell' _ _ _) (by intro e; injection e with e; omega), (b3.kept (grownBy_setCell' _ w.heap.size u') (by intro e; injection e with e; omega)).set q'⟩
theorem own_base {w : World} {B B' n s : Nat} {T : TypeId} {v : Value} {xs : List Value} (h : w.ownsRow B T s v n xs) (hB : B' ≤ B) : w.ownsRow B' T s v n xs :=
  ⟨h.1, h.2.imp id fun ⟨g, cap, cur, h1, h2, h3⟩ => ⟨g, cap, cur, h1, Nat.le_trans hB h2, h3⟩⟩
theorem own_low {w : World} {B n s k : Nat} {T : TypeId} {v : Value} {xs : List Value} (h : w.ownsRow B T s v n xs) (hk : k < B) : v.ownBlock ≠ some k := fun e => by
  have := (h.lt k e).1; omega

/-- What holds between two rounds. -/
def RdI (s : List UInt8) (w : World) (pre : List ByteArray) (W : World) : Prop :=
  ∃ (l : List Ins) (v : Value), (Boxed W (w.heap.size + 2) 26 v ∧ Boxed W w.heap.size 26 (.slice none 0 0) ∧ Boxed W (w.heap.size + 1) 4 (.bool false)) ∧ W.ownsRow (w.heap.size + 4) 37 3 v l.length (l.flatMap instrL) ∧ (Below w.heap.size w W ∧ w.heap.size + 4 ≤ W.heap.size) ∧ Ahead s l (restOf s pre) ∧ (l.length ≤ (pre.map (·.size)).sum ∧ l.length ≤ 1048576) ∧ ∀ i, i < l.length → (l.getD i default).2.2.size ≤ 1048576
/-- What holds where a round has returned. -/
def RdX (s : List UInt8) (w : World) (pre : List ByteArray) (W : World) : Prop := (∀ L, ¬ Sol s L) ∧ (Boxed W w.heap.size 26 (.slice none 0 0) ∧ Boxed W (w.heap.size + 1) 4 (.bool false)) ∧ Below w.heap.size w W
theorem box_turn {A B : World} {row : Option Nat} {w0 Bn k : Nat} {t : TypeId} {u : Value} (h : Boxed A k t u) (hg : A.grownBy B row) (hr : Turns w0 Bn A row) (hk : k ≠ Bn) : Boxed B k t u := h.kept hg (fun e => by
  rcases hr k e.symm with h1 | ⟨_, o, ho, hc⟩
  · exact hk h1
  · rw [show A.heap[k]? = _ from h] at ho; cases ho; cases hc)
theorem below_turn {A B w : World} {row : Option Nat} {w0 Bn : Nat} (h : Below w.heap.size w A) (hg : A.grownBy B row) (hr : Turns w0 Bn A row) (h0 : w.heap.size ≤ w0) (hB : w.heap.size ≤ Bn) : Below w.heap.size w B :=
  h.grown hg h.size (fun k e => by
    rcases hr k e with h1 | ⟨h1, _⟩
    · omega
    · omega)
theorem RdI.turn {s : List UInt8} {w : World} {pre : List ByteArray} {A B : World} {row : Option Nat} (h : RdI s w pre A) (hg : A.grownBy B row) (hr : Turns (w.heap.size + 4) (w.heap.size + 3) A row) : RdI s w pre B := by
  obtain ⟨l, v, ⟨h1, h2, h3⟩, h4, h5, h6⟩ := h
  refine ⟨l, v, ⟨box_turn h1 hg hr (by omega), box_turn h2 hg hr (by omega), box_turn h3 hg hr (by omega)⟩, h4.kept hg ?_, ⟨below_turn h5.1 hg hr (by omega) (by omega), Nat.le_trans h5.2 hg.size⟩, h6⟩
  rcases h4.2 with ⟨rfl, _⟩ | ⟨g, cap, cur, rfl, hb, hgb, _⟩
  · exact .inl rfl
  · refine .inr fun e => ?_
    have e' : row = some g := by rw [← e]; rfl
    rcases hr g e' with h1 | ⟨_, o, ho, hc⟩
    · omega
    · rw [hgb] at ho; cases ho; cases hc
theorem RdX.turn {s : List UInt8} {w : World} {pre : List ByteArray} {A B : World} {row : Option Nat} (h : RdX s w pre A) (hg : A.grownBy B row) (hr : Turns (w.heap.size + 4) (w.heap.size + 3) A row) : RdX s w pre B := by
  obtain ⟨h1, ⟨h2, h3⟩, h5⟩ := h
  exact ⟨h1, ⟨box_turn h2 hg hr (by omega), box_turn h3 hg hr (by omega)⟩, below_turn h5 hg hr (by omega) (by omega)⟩

set_option maxRecDepth 100000 in
set_option maxHeartbeats 4000000 in
theorem implReadCode_any (s : ByteArray) (w : World) (hs : s.size ≤ 1048576) (hT : Tab w.heap.size w) (hE : EV w) :
    Calls Tryd.prog 11 #[.string s] w fun e w' => ReadC s.data.toList w e w' ∧ Below w.heap.size w w' := by
  have HT := hideT' hT
  have HE := hideT' hE
  clear hT hE
  refine (callsIn_wide (n := 3)).1 ?_
  refine callsIn_of_wp_marks Tryd.func11 rfl trivial ?_ rfl
  simp only [Tryd.ntmps11, List.size_toArray, List.length_cons, List.length_nil, Nat.reduceAdd, Nat.reduceSub, Array.replicate_succ, Array.replicate_zero, List.push_toArray, List.append_toArray, List.nil_append, List.cons_append]
  gi_wp2_with (first | (refine ⟨trivial, ?_⟩; gi_at_call 23; refine (callsIn_wide.2 (Tryd.strings_Count_one s 10 _)).mono ?_; rintro e w1 ⟨rfl, rfl⟩) | (refine ⟨trivial, ?_⟩; gi_at_call 24; refine (callsIn_wide.2 (lines_any s _)).mono ?_; rintro e w2 ⟨rfl, rfl⟩))
  · rename_i hcnt
    have HS : ∀ L, ¬ Sol s.data.toList L := fun L hL => by have := count_sol hL; omega
    have hB : Below w.heap.size w ((w.alloc (.cells #[.slice none 0 0] 26)).alloc (.cells #[.bool false] 4)) := ((Below.refl _ w).alloc (Nat.le_refl _) _).alloc (by simp) _
    have b0 := (Boxed.new w 26 (.slice none 0 0)).alloc (.cells #[.bool false] 4)
    have b1 := Boxed.new (w.alloc (.cells #[.slice none 0 0] 26)) 4 (.bool false)
    rw [World.size_alloc] at b1
    exact ⟨_, res_two rfl rfl b0.cell b1.cell, .inr ⟨HS, rfl⟩, hB⟩
  · obtain ⟨w3, hw3⟩ : ∃ w3, w3 = ((((w.alloc (.cells #[.slice none 0 0] 26)).alloc (.cells #[.bool false] 4)).alloc (.cells #[.slice none 0 0] 26)).alloc (.cells #[.string s] 9)) := ⟨_, rfl⟩
    have hs3 : w3.heap.size = w.heap.size + 4 := by rw [hw3]; simp
    have b0 : Boxed w3 w.heap.size 26 (.slice none 0 0) := by rw [hw3]; exact (((Boxed.new w _ _).alloc _).alloc _).alloc _
    have b1 : Boxed w3 (w.heap.size + 1) 4 (.bool false) := by
      rw [hw3]
      have := Boxed.new (w.alloc (.cells #[.slice none 0 0] 26)) 4 (.bool false)
      rw [World.size_alloc] at this
      exact (this.alloc _).alloc _
    have b2 : Boxed w3 (w.heap.size + 2) 26 (.slice none 0 0) := by
      rw [hw3]
      have := Boxed.new ((w.alloc (.cells #[.slice none 0 0] 26)).alloc (.cells #[.bool false] 4)) 26 (.slice none 0 0)
      simp only [World.size_alloc] at this
      exact this.alloc _
    have b3 : w3.heap[w.heap.size + 3]? = some (.cells #[.string s] 9 (0, 0)) := by
      rw [hw3]
      have := World.alloc_heap_new (((w.alloc (.cells #[.slice none 0 0] 26)).alloc (.cells #[.bool false] 4)).alloc (.cells #[.slice none 0 0] 26)) (.cells #[.string s] 9)
      simp only [World.size_alloc] at this
      exact this
    have hB3 : Below w.heap.size w w3 := by rw [hw3]; exact ((((Below.refl _ w).alloc (Nat.le_refl _) _).alloc (by simp) _).alloc (by simp; omega) _).alloc (by simp; omega) _
    rw [← hw3]
    have hseq := lines_seq 2 (by omega) s hs (w.heap.size + 3)
    rw [← b3] at hseq
    refine range_box (n := 3) (gf := 35) (lb := #[.pointer (some ⟨w.heap.size + 3, 0, none⟩)]) (by rfl) (enters_of Tryd.func35 (by kernel_rfl) rfl) (w.heap.size + 3) (by omega) (NxL s.data.toList) (fun xs => restOf s.data.toList xs = []) hseq
      (RdI s.data.toList w) (RdX s.data.toList w) (fun s' A B row h hg hr => RdI.turn h hg (by rw [← hs3]; exact hr)) (fun s' A B row h hg hr => RdX.turn h hg (by rw [← hs3]; exact hr))
      ⟨[], .slice none 0 0, ⟨b2, b0, b1⟩, World.ownsRow_nil _ _ _ _, ⟨hB3, by omega⟩, Ahead.start _, ⟨by simp, by simp⟩, fun i hi => by simp at hi⟩ (fun x => ⟨#[.string s, undef, .pointer (some ⟨w.heap.size, 0, none⟩), .pointer (some ⟨w.heap.size + 1, 0, none⟩), .pointer (some ⟨w.heap.size + 1 + 1, 0, none⟩), .string x, undef, undef, undef, undef, .string s, .int .i64 (Lib.countByte s.data.toList 10 : Int), .bool (decide ((3000 : Int) < (Lib.countByte s.data.toList 10 : Int))), .string s, .func (.func 35) #[] #[.pointer (some ⟨w.heap.size + 1 + 1 + 1, 0, none⟩)], .string x, undef, undef, undef, undef, undef, undef, undef, undef, undef, undef, undef, undef, undef, undef, undef, undef, undef, undef, undef, undef, undef, undef, undef, undef, undef], []⟩) ?assign ?body ?done ?stop
    case assign =>
      intro l x W K hK
      gi_wp2
      exact hK
    case body =>
      rintro l pre x W hN ⟨lst, v, ⟨hb4, hb2, hb3⟩, hown, ⟨hB, hWsz⟩, hA, hlen, hsz⟩
      obtain ⟨hx1, hx2⟩ := nx_pos hN
      have hsl : s.data.toList.length = s.size := by simp
      have hxs : x.size ≤ 1048576 := by omega
      obtain ⟨t, ht⟩ : ∃ t : ByteArray, t = ⟨(Lib.trimSuffix x.data.toList [10]).toArray⟩ := ⟨_, rfl⟩
      have hts : t.size ≤ x.size := by
        rw [ht]
        have := trim_len x.data.toList [10]
        show (Lib.trimSuffix x.data.toList [10]).toArray.size ≤ x.size
        simpa using this
      have HC1 : Hid (Calls Tryd.prog 26 #[.string x, .string ⟨#[10]⟩] W fun e w' => e = .returned (.string t) ∧ w' = W) := by
        unfold Hid; rw [ht]; exact Tryd.strings_TrimSuffix x ⟨#[10]⟩ W (by omega)
      have HC2 := hideT' (readInstr_any t W (by omega) (HE.out.below hB))
      have HTT : Hid (t.data.toList = Lib.trimSuffix x.data.toList [10]) := by unfold Hid; rw [ht]
      have HN := hideT' hN
      have HA := hideT' hA
      have HSZ := hideT' hsz
      have HLN := hideT' (And.intro hlen (And.intro hx1 hx2))
      have HBX := hideT' (And.intro hb4 (And.intro hb2 hb3))
      have HOW := hideT' hown
      clear ht hN hA hsz hlen hx2 hb4 hb2 hb3 hown b0 b1 b2 b3 hseq hw3 hB3
      gi_wp2_with (refine ⟨trivial, ?_⟩; gi_at_call 26; refine (CallsIn.inRound l (callsIn_wide.2 HC1.out)).mono ?_; rintro e w1 ⟨rfl, rfl⟩)
      refine ⟨trivial, ?_⟩
      gi_at_call 25
      refine (CallsIn.inRound l (callsIn_wide.2 HC2.out)).mono ?_
      rintro e w2 ⟨⟨⟨a, b, c⟩, q, he, hcs, hz⟩, hB2⟩
      obtain rfl : e = .returned (.tuple #[.agg #[.int .i64 a, .int .i64 b, .string c], .bool q]) := he
      obtain ⟨hno, hahead⟩ := nx_line HA.out HN.out (a, b, c) q (fun z hz' e => hz z hz' (by rw [HTT.out]; exact e))
      have HNO := hideT' hno
      have HAH := hideT' hahead
      simp only at hcs
      obtain ⟨hb4, hb2, hb3⟩ := HBX.out
      have lt4 := hb4.lt
      have k4 : Boxed w2 (w.heap.size + 2) 26 v := (hB2.block _ lt4).trans hb4
      have k2 : Boxed w2 w.heap.size 26 (.slice none 0 0) := (hB2.block _ (by omega)).trans hb2
      have k3 : Boxed w2 (w.heap.size + 1) 4 (.bool false) := (hB2.block _ (by omega)).trans hb3
      have hW2 := hB.trans (hB2.mono hB.size)
      have hs2 := hB2.size
      have HK2 := hideT' (keeps_below hB2)
      have HB2 := hideT' hB2
      have HO2 := hideT' (OwnR.below (l := lst) HOW.out hB2 (Nat.le_refl _))
      have hzi := zero_instr.1
      clear hno hahead hz hb4 hb2 hb3 hB2
      cases q with
      | false =>
        have HS := hideT' (HNO.out rfl)
        have n2 := k2.alloc (.cells #[.int .i64 a, .int .i64 b, .string c] 37)
        have n3 := k3.alloc (.cells #[.int .i64 a, .int .i64 b, .string c] 37)
        have f2 := n2.cell
        have f3 := n3.cell
        have g2 := n2.frozen
        have g3 := n3.frozen
        gi_wp2
        refine ⟨HK2.out.trans ((KeepsOthers.alloc w2 _).trans ((KeepsOthers.setCell _ _ _).trans (KeepsOthers.setCell _ _ _))), HS.out, ⟨(n2.set (.slice none 0 0)).kept (grownBy_setCell' _ _ _) (by intro e; injection e with e; omega), (n3.kept (grownBy_setCell' _ w.heap.size (.slice none 0 0)) (by intro e; injection e with e; omega)).set (.bool false)⟩, ?_⟩
        exact ((hW2.alloc hW2.size _).setCell (p := ⟨w.heap.size, 0, none⟩) (Nat.le_refl _) _).setCell (p := ⟨w.heap.size + 1, 0, none⟩) (by simp) _
      | true =>
        have n4 := k4.alloc (.cells #[.int .i64 a, .int .i64 b, .string c] 37)
        have f4 : (w2.alloc (.cells #[.int .i64 a, .int .i64 b, .string c] 37)).cell? ⟨w.heap.size + 1 + 1, 0, none⟩ = some v := n4.cell
        have hrn := RowAt.new w2 37 #[.int .i64 a, .int .i64 b, .string c]
        obtain ⟨i0, hi, hz0, hz1, hz2⟩ := info_parts info_instr
        obtain ⟨o, cap, hvv⟩ : ∃ o cap, v = .slice o lst.length cap := by
          rcases HO2.out.2 with ⟨h1, h0⟩ | ⟨g, cap, cur, h1, _⟩
          · exact ⟨none, 0, by rw [h1, h0]⟩
          · exact ⟨_, _, h1⟩
        subst hvv
        have hc5 : ∀ j u, (instrL (a, b, c))[j]? = some u → ((w2.alloc (.cells #[.int .i64 a, .int .i64 b, .string c] 37)).alloc (.cells #[.int .i64 a, .int .i64 b, .string c] 37)).cell? ((⟨w2.heap.size + 1, 0, none⟩ : Addr).add j) = some u := by
          have := ins3_cells (w2.alloc (.cells #[.int .i64 a, .int .i64 b, .string c] 37)) (a, b, c)
          rw [World.size_alloc] at this
          exact this
        have HC5 := hideT' hc5
        have HN4 := hideT' n4
        have hll : lst.length ≤ 1048576 := HLN.out.1.2
        have hwb := hB.size
        clear hc5 n4
        gi_wp2_with (gi_at_builtin; refine wpListIn_append_own _ rfl _ _ 26 rfl (w.heap.size + 4) 37 i0 (.agg #[.int .i64 0, .int .i64 0, .string ⟨#[]⟩]) 3 32 Tryd.underlying26 hi hz0 hz1 hz2 rfl (by decide) (.slice o lst.length cap) _ _ rfl ((HO2.out.alloc _).alloc _) ⟨w2.heap.size + 1, 0, none⟩ 1 1 (instrL (a, b, c)) rfl rfl HC5.out (instrL_one _) (by unfold maxLen; omega) (by omega) (by simp; omega) ?_; intro v5 w5 hown5 hg5 _; obtain ⟨g5, cap5, rfl⟩ := ownsRow_succ hown5; have hbx := box_append HN4.out (by decide) (HO2.out.alloc _) hown5 hg5; have HBX5 := hideT' hbx; have f5 : w5.cell? ⟨w.heap.size + 1 + 1, 0, none⟩ = some (.slice o lst.length cap) := hbx.1.cell; have fz5 : w5.frozen? ⟨w.heap.size + 1 + 1, 0, none⟩ = false := hbx.1.frozen; clear hbx)
        obtain ⟨_, q1, q2, q3, q4, q5, q6, q7, q8⟩ := HBX5.out
        have hX := hW2.alloc hW2.size (.cells #[.int .i64 a, .int .i64 b, .string c] 37)
        have hsa : (w2.alloc (.cells #[.int .i64 a, .int .i64 b, .string c] 37)).heap.size = w2.heap.size + 1 := by simp
        have low : ∀ j, j < w.heap.size + 4 → j ≠ w.heap.size + 2 → (w5.setCell ⟨w.heap.size + 2, 0, none⟩ (.slice (some ⟨g5, 0, none⟩) (lst.length + 1) cap5)).heap[j]? = w2.heap[j]? := fun j hj hn =>
          (q5 j (by omega) hn hj).trans (Below.heap_alloc _ _ _ (by omega))
        refine ⟨HK2.out.trans ((KeepsOthers.alloc w2 _).trans q3), (low _ (by omega) (by omega)).trans (HB2.out.block _ (by omega)), lst ++ [(a, b, c)], _, ⟨q1, (low _ (by omega) (by omega)).trans k2, (low _ (by omega) (by omega)).trans k3⟩, ?_, ⟨hX.trans ⟨q6, q7, q8, q4, fun j hj => q5 j (by omega) (by omega) (by omega)⟩, ?_⟩, HAH.out, ?_, ?_⟩
        · simpa using q2
        · exact Nat.le_trans (by rw [hsa]; omega) q4
        · have := HLN.out
          rw [List.length_append, List.map_append, List.sum_append, List.length_singleton]
          simp
          omega
        · intro i hi
          rw [List.length_append, List.length_singleton] at hi
          by_cases e : i = lst.length
          · subst e
            simp [List.getD]
            omega
          · have : (lst ++ [((a, b, c) : Ins)]).getD i default = lst.getD i default := by
              simp only [List.getD]
              rw [List.getElem?_append_left (by omega)]
            rw [this]
            exact HSZ.out i (by omega)
    case done =>
      rintro D xs W hD hS ⟨lst, v, ⟨hb4, hb2, hb3⟩, hown, ⟨hB, hWsz⟩, hA, hlen, hsz⟩ hK
      rw [hS] at hA
      obtain ⟨o, cap, hvv⟩ : ∃ o cap, v = .slice o lst.length cap := by
        rcases hown.2 with ⟨h1, h0⟩ | ⟨g, cap, cur, h1, _⟩
        · exact ⟨none, 0, by rw [h1, h0]⟩
        · exact ⟨_, _, h1⟩
      subst hvv
      have hll := hlen.2
      have HC := hideT' (implCodeText_any lst _ W hsz hll (OwnR.inR (l := lst) hown instrL_len) ((HT.out.on hB).up hB.size))
      have f4 : W.cell? ⟨w.heap.size + 1 + 1, 0, none⟩ = some (.slice o lst.length cap) := hb4.cell
      have HA := hideT' hA
      have HBX := hideT' (And.intro hb4 (And.intro hb2 hb3))
      have HOW := hideT' hown
      have HSZ := hideT' hsz
      have HKD := hideT' hK
      clear hA hb4 hb2 hb3 hown hsz hS hK b0 b1 b2 b3 hseq hw3 hB3 hlen
      gi_wp2
      refine ⟨trivial, ?_⟩
      gi_at_call 8
      refine (callsIn_wide.2 HC.out).mono ?_
      rintro e w5 ⟨he, hB5⟩
      obtain ⟨hb4, hb2, hb3⟩ := HBX.out
      have lt4 := hb4.lt
      have k4 : Boxed w5 (w.heap.size + 2) 26 (.slice o lst.length cap) := (hB5.block _ lt4).trans hb4
      have k2 : Boxed w5 w.heap.size 26 (.slice none 0 0) := (hB5.block _ (by omega)).trans hb2
      have k3 : Boxed w5 (w.heap.size + 1) 4 (.bool false) := (hB5.block _ (by omega)).trans hb3
      have c4 : w5.cell? ⟨w.heap.size + 1 + 1, 0, none⟩ = some (.slice o lst.length cap) := k4.cell
      have c2 := k2.cell
      have c3 := k3.cell
      have z2 := k2.frozen
      have z3 := k3.frozen
      have hW5 := hB.trans (hB5.mono hB.size)
      have HK5 : Hid (w5.heap[D]? = some (.deferred (some []))) := (keeps_below hB5).same D _ HKD.out rfl
      have HO5 := hideT' (OwnR.below (l := lst) HOW.out hB5 (Nat.le_refl _))
      have HB2 := hideT' (And.intro k2 k3)
      have HBX5 := hideT' (And.intro k2 k3)
      have hD2 : w.heap.size ≤ D := by omega
      have KD : Hid (∀ u q, ((w5.setCell ⟨w.heap.size, 0, none⟩ u).setCell ⟨w.heap.size + 1, 0, none⟩ q).heap[D]? = some (.deferred (some []))) := fun u q => ((KeepsOthers.setCell w5 ⟨w.heap.size, 0, none⟩ u).trans (KeepsOthers.setCell _ ⟨w.heap.size + 1, 0, none⟩ q)).same D _ HK5.out rfl
      have BD : Hid (∀ u q, Below w.heap.size w ((w5.setCell ⟨w.heap.size, 0, none⟩ u).setCell ⟨w.heap.size + 1, 0, none⟩ q)) := fun u q => (hW5.setCell (p := ⟨w.heap.size, 0, none⟩) (Nat.le_refl _) _).setCell (p := ⟨w.heap.size + 1, 0, none⟩) (by simp) _
      cases hcode : codeOk lst with
      | false =>
        rw [codeAns_no hcode] at he
        subst he
        have HS : Hid (∀ L, ¬ Sol s.data.toList L) := fun L hL => by
          have h1 := hL.1
          rw [HA.out.done hL, hcode] at h1
          cases h1
        clear hcode hB5 hb4 hb2 hb3
        gi_wp2
        exact leave_two rfl rfl (set_two HBX5.out.1 HBX5.out.2).1 (set_two HBX5.out.1 HBX5.out.2).2 (KD.out _ _) hD2 (BD.out _ _) (.inr ⟨HS.out, rfl⟩)
      | true =>
        rw [codeAns_yes hcode] at he
        by_cases heq : codeTxt lst = s.data.toList
        · have hts : (⟨(codeTxt lst).toArray⟩ : ByteArray) = s := ByteArray.ext (Array.ext' (by simpa using heq))
          rw [hts] at he
          subst he
          have HS : Hid (Sol s.data.toList lst) := ⟨hcode, heq⟩
          clear hcode heq hts hB5 hb4 hb2 hb3
          gi_wp2
          refine leave_two rfl rfl (set_two HBX5.out.1 HBX5.out.2).1 (set_two HBX5.out.1 HBX5.out.2).2 (KD.out _ _) hD2 (BD.out _ _) (.inl ⟨lst, _, HS.out, rfl, ?_⟩)
          have o1 := HO5.out.kept (grownBy_setCell' w5 w.heap.size (.slice o lst.length cap)) (.inr (own_low HO5.out (by omega)))
          have o2 := o1.kept (grownBy_setCell' _ (w.heap.size + 1) (.bool true)) (.inr (own_low o1 (by omega)))
          exact own_base (ownsRow_putObj o2 _ (KD.out _ _) rfl) (by omega)
        · obtain ⟨T, hT⟩ : ∃ T : ByteArray, T = ⟨(codeTxt lst).toArray⟩ := ⟨_, rfl⟩
          rw [← hT] at he
          subst he
          have hE : (T.toList == s.toList) = false := by
            rw [ByteArray.toList_eq, ByteArray.toList_eq, beq_eq_false_iff_ne, hT]
            simpa using heq
          have HS : Hid (∀ L, ¬ Sol s.data.toList L) := fun L hL => heq (by rw [← HA.out.done hL]; exact hL.2)
          clear hcode heq hT hB5 hb4 hb2 hb3
          gi_wp2
          exact leave_two rfl rfl (set_two HBX5.out.1 HBX5.out.2).1 (set_two HBX5.out.1 HBX5.out.2).2 (KD.out _ _) hD2 (BD.out _ _) (.inr ⟨HS.out, rfl⟩)
    case stop =>
      rintro D pre W hD ⟨hno, ⟨hb2, hb3⟩, hB⟩ hK
      gi_wp2
      refine ⟨by simp, .inl ⟨_, _, rfl, run_takeDeferred hK, ?_⟩⟩
      exact ⟨_, res_two rfl rfl (box_put hb2 hK rfl).cell (box_put hb3 hK rfl).cell, .inr ⟨hno, rfl⟩, put_below hB hK (by omega)⟩
end Go.Proofs.YtpphkdgjojnfeaaDoor
