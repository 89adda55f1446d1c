/-
  The texts SpecText, SpecTextW, one behind the other.
-/
import Derived.Test.YtmfpnbmfcoahbaaDoorPkLimbs
import Derived.Test.YtmfpnbmfcoahbaaDoorNum
import Derived.Lib.ConvBytes
import Derived.Deep.MidRow
import Derived.Deep.AppendSrc

/-
  What spec.l1Text and l1Known answer: the text of parts.
-/
namespace Go.Proofs.YtmfpnbmfcoahbaaDoor
open Go.RowKit
set_option linter.unusedVariables false

/-! ### Bytes that the call holds in a row, told by its cells -/
/-- The slice v holds the bytes l in a row of the call's own; its spare may be written. -/
def Row (w : World) (B : Nat) (v : Value) (l : List UInt8) : Prop :=
  ∃ g cap, v = .slice (some ⟨g, 0, none⟩) l.length cap ∧ B ≤ g ∧ g < w.heap.size ∧ l.length ≤ cap ∧ w.rangeAt g 0 (Lib.byteCells l) ∧ w.there g 0 cap

theorem Row.conv {w : World} {B : Nat} {v : Value} {l : List UInt8} (h : Row w B v l) : (convert 22 9 v).run Tryd.prog w = .ok (.string ⟨l.toArray⟩) w := by
  obtain ⟨g, cap, rfl, _, _, _, hr, _⟩ := h
  exact run_convert_bytes_back (P := Tryd.prog) w 22 9 5 ⟨g, 0, none⟩ cap l Tryd.underlying22 Tryd.underlying5 Tryd.underlying9 (fun j hj => by
    have := hr j (.int .u8 (l[j].toNat : Int)) (by simp [Lib.byteCells, List.getElem?_eq_getElem hj])
    rw [Nat.zero_add] at this
    have e : (⟨g, 0, none⟩ : Addr).add j = ⟨g, j, none⟩ := by unfold Addr.add; split <;> simp_all
    rw [e]; exact this)

theorem tape_setCells (b : Nat) : ∀ (vs : List Value) (o : Nat) (w : World), (w.setCells b o vs).tape = w.tape ∧ (w.setCells b o vs).os = w.os ∧ (w.setCells b o vs).output = w.output ∧ (w.setCells b o vs).heap.size = w.heap.size ∧ ∀ k, k ≠ b → (w.setCells b o vs).heap[k]? = w.heap[k]?
  | [], _, _ => ⟨rfl, rfl, rfl, rfl, fun _ _ => rfl⟩
  | v :: r, o, w => by
    rw [World.setCells]
    obtain ⟨h1, h2, h3, h4, h5⟩ := tape_setCells b r (o + 1) (w.setCell ⟨b, o, none⟩ v)
    refine ⟨h1, h2, h3, by rw [h4]; simp [World.setCell], fun k hk => ?_⟩
    rw [h5 k hk]; exact Below.heap_setCell _ _ _ _ hk

theorem u8_info : ∃ i, Tryd.prog.info? 5 = some i ∧ i.zero = some (.int .u8 0) ∧ i.size = 1 ∧ i.bytes = 1 := by
  have h : (Tryd.prog.info? 5).map (fun i => (i.zero, i.size, i.bytes)) = some (some (.int .u8 0), 1, 1) := by kernel_rfl
  cases hq : Tryd.prog.info? 5 with
  | none => simp [hq] at h
  | some i => simp [hq] at h; exact ⟨i, rfl, h.1, h.2.1, h.2.2⟩

theorem bc_len (l : List UInt8) : (Lib.byteCells l).length = l.length := by simp [Lib.byteCells]
theorem bc_one (l : List UInt8) : ∀ u ∈ Lib.byteCells l, u.oneCell' = true := by
  intro u hu; simp [Lib.byteCells] at hu; obtain ⟨b, _, rfl⟩ := hu; rfl

/-- A text's bytes in new memory. -/
theorem Row.ofText (w : World) (s : ByteArray) : Row (Lib.bytesWorld w 5 s) w.heap.size (.slice (some ⟨w.heap.size, 0, none⟩) s.size (grownCap w s.size 0 5)) s.data.toList := by
  have hge := grownCap_ge w s.size 0 5
  have hsz : (Lib.bytesCells w 5 s).size = grownCap w s.size 0 5 := by
    unfold Lib.bytesCells; simp; have : s.data.size = s.size := rfl; omega
  have hll : s.data.toList.length = s.size := by simp
  refine ⟨w.heap.size, _, by rw [hll], Nat.le_refl _, by rw [Lib.bytesWorld_size]; omega, by omega, ?_, ?_⟩
  · intro j u hu
    have hj : j < s.size := by
      have := (List.getElem?_eq_some_iff.1 hu).1
      rw [bc_len] at this; omega
    rw [Nat.zero_add, Lib.bytesWorld_cell w 5 s j hj, ← hu]
    have hjj : j < s.data.size := hj
    simp [Lib.byteCells, List.getD, Array.getElem?_eq_getElem hjj]
  · intro j hj
    rw [Nat.zero_add]
    have hc : (Lib.bytesWorld w 5 s).cell? ⟨w.heap.size, j, none⟩ = (Lib.bytesCells w 5 s)[j]? := cell_of_row _ _ _ _ _ _ (Lib.bytesWorld_at_new w 5 s)
    refine ⟨by rw [hc]; simp [show j < (Lib.bytesCells w 5 s).size by omega], ?_⟩
    simp [World.frozen?, Lib.bytesWorld_at_new w 5 s]
    omega

theorem run_append_row (w : World) (ty : TypeId) (B : Nat) (v : Value) (l : List UInt8) (hrow : Row w B v l) (ad : Addr) (c : Nat) (m : List UInt8) (hnews : ∀ j u, (Lib.byteCells m)[j]? = some u → w.cell? (ad.add j) = some u) (hB : B ≤ w.heap.size) (hlen : l.length + m.length ≤ 100000) :
    ∃ v' w', (Builtin.append_ #[22, 22] ty #[v, .slice (some ad) m.length c]).run Tryd.prog w = .ok v' w' ∧ Row w' B v' (l ++ m) ∧ w.grownBy w' v.ownBlock := by
  obtain ⟨g, cap, rfl, hBg, hgs, hlc, hr, ht⟩ := hrow
  obtain ⟨i, hi, hz, hs1, hb1⟩ := u8_info
  have hsrc : Src Tryd.prog i.size 22 (.slice (some ad) m.length c) m.length (Lib.byteCells m) w :=
    Src.ofSlice w Tryd.underlying22 ad m.length c (Lib.byteCells m) (by rw [bc_len, hs1]; omega) hnews (bc_one m)
  have hcat : Lib.byteCells (l ++ m) = Lib.byteCells l ++ Lib.byteCells m := by simp [Lib.byteCells]
  by_cases hroom : l.length + m.length ≤ cap
  · have hr' := run_append_room_src (P := Tryd.prog) (w := w) 22 22 ty 5 i Tryd.underlying22 hi g 0 l.length cap _ m.length (Lib.byteCells m) hsrc hroom
      (fun j hj => by rw [bc_len] at hj; rw [hs1]; have := (ht (l.length + j) (by omega)).1; simpa [Nat.add_assoc] using this)
      (fun j hj => by rw [bc_len] at hj; rw [hs1]; have := (ht (l.length + j) (by omega)).2; simpa [Nat.add_assoc] using this)
    rw [hs1, Nat.mul_one, Nat.zero_add] at hr'
    refine ⟨_, _, hr', ⟨g, cap, by rw [List.length_append], hBg, ?_, by rw [List.length_append]; exact hroom, ?_, World.there_setCells ht _ _ _⟩, ?_⟩
    · rw [(tape_setCells g _ _ w).2.2.2.1]; exact hgs
    · rw [hcat]
      intro j u hu
      rw [Nat.zero_add]
      by_cases hj : j < l.length
      · rw [List.getElem?_append_left (by rw [bc_len]; exact hj)] at hu
        rw [World.cell?_setCells_out g _ _ w ⟨g, j, none⟩ (fun _ _ => .inl hj)]
        have := hr j u hu; rwa [Nat.zero_add] at this
      · rw [List.getElem?_append_right (by rw [bc_len]; omega), bc_len] at hu
        have hj2 : j - l.length < (Lib.byteCells m).length := (List.getElem?_eq_some_iff.1 hu).1
        have := World.cell?_setCells_in g (Lib.byteCells m) l.length w (fun q hq => by rw [bc_len] at hq; have := (ht (l.length + q) (by omega)).1; simpa using this) (j - l.length) hj2
        rw [show l.length + (j - l.length) = j by omega] at this
        rw [this, ← hu, List.getElem?_eq_getElem hj2]
    · obtain ⟨h1, h2, h3, h4, h5⟩ := tape_setCells g (Lib.byteCells m) l.length w
      exact ⟨h2, h1, h3, by rw [h4]; exact Nat.le_refl _, fun k _ hk => h5 k (fun e => hk (by rw [e]; rfl))⟩
  · have hold := run_firstCells_some (P := Tryd.prog) w.drew i.size l.length ⟨g, 0, none⟩ l.length cap (Lib.byteCells l) (by rw [bc_len, hs1]; omega) (fun j u hu => by
      have e : (⟨g, 0, none⟩ : Addr).add j = ⟨g, j, none⟩ := by unfold Addr.add; split <;> simp_all
      rw [e]; have := hr j u hu; rw [Nat.zero_add] at this; simpa using this)
    have hr' := run_append_grow_src (P := Tryd.prog) (w := w) 22 22 ty 5 i (.int .u8 0) Tryd.underlying22 hi hz (some ⟨g, 0, none⟩) l.length cap (Lib.byteCells l) hold _ m.length (Lib.byteCells m) hsrc (by omega) (by omega) (growslice_fits (by omega) (by rw [hb1]; omega))
    have hge := grownCap_ge w (l.length + m.length) cap 5
    refine ⟨_, _, hr', ⟨w.heap.size, _, by rw [List.length_append], hB, by simp, by rw [List.length_append]; exact hge, ?_, ?_⟩, ⟨rfl, rfl, rfl, by simp, fun k hk _ => Below.heap_alloc w.drew _ k hk⟩⟩
    · rw [hcat]
      intro j u hu
      rw [Nat.zero_add, cell_of_row (w.drew.alloc (.cells ((Lib.byteCells l ++ Lib.byteCells m).toArray ++ Builtin.zeroCells (Value.int .u8 0).cells (grownCap w (l.length + m.length) cap 5 - (l.length + m.length))) 5)) w.heap.size j _ _ _ (heap_alloc_new w.drew _)]
      have hj : j < (Lib.byteCells l ++ Lib.byteCells m).toArray.size := by
        have := (List.getElem?_eq_some_iff.1 hu).1; simpa using this
      rw [Array.getElem?_append_left hj]; simpa using hu
    · intro j hj
      rw [Nat.zero_add]
      have hh : (w.drew.alloc (.cells ((Lib.byteCells l ++ Lib.byteCells m).toArray ++ Builtin.zeroCells (Value.int .u8 0).cells (grownCap w (l.length + m.length) cap 5 - (l.length + m.length))) 5)).heap[w.heap.size]? = some (.cells ((Lib.byteCells l ++ Lib.byteCells m).toArray ++ Builtin.zeroCells (Value.int .u8 0).cells (grownCap w (l.length + m.length) cap 5 - (l.length + m.length))) 5) := heap_alloc_new w.drew (.cells ((Lib.byteCells l ++ Lib.byteCells m).toArray ++ Builtin.zeroCells (Value.int .u8 0).cells (grownCap w (l.length + m.length) cap 5 - (l.length + m.length))) 5)
      refine ⟨?_, frozen_of_row _ _ _ _ _ hh⟩
      rw [cell_of_row _ _ _ _ _ _ hh]
      have hsz : ((Lib.byteCells l ++ Lib.byteCells m).toArray ++ Builtin.zeroCells (Value.int .u8 0).cells (grownCap w (l.length + m.length) cap 5 - (l.length + m.length))).size = grownCap w (l.length + m.length) cap 5 := by
        rw [Array.size_append, size_zeroCells]
        have : (Value.int .u8 0).cells.size = 1 := rfl
        simp [this, bc_len]; omega
      simp [hsz, hj]

theorem append_row {ops : Array Oper} {rest : List Oper} {o : Oper} {a : Act} {w : World} {Q : Exit → Act → World → Prop} (hgd : o.guard = none) (s x : Operand)
    (ho : o.op = .call { callee := .builtin .append, args := #[s, x], argTypes := #[22, 22] }) (B : Nat) (v : Value) (l : List UInt8) (hs : a.eval s = v) (hrow : Row w B v l)
    (ad : Addr) (c : Nat) (m : List UInt8) (n : Nat) (hn : n = m.length) (hx : a.eval x = .slice (some ad) n c) (hnews : ∀ j u, (Lib.byteCells m)[j]? = some u → w.cell? (ad.add j) = some u) (hB : B ≤ w.heap.size) (hlen : l.length + m.length ≤ 100000)
    (h : ∀ v' w', Row w' B v' (l ++ m) → w.grownBy w' v.ownBlock → wpList Tryd.prog ops Q rest (a.put o.dst v') w') : wpList Tryd.prog ops Q (o :: rest) a w := by
  subst hn
  refine wpList_plain hgd fun K hK => ?_
  obtain ⟨v', w', hr, h2, h3⟩ := run_append_row w o.type B v l hrow ad c m hnews hB hlen
  unfold Oper.wp execOp
  simp only [ho, resolve, invoke, builtin, Sem.run_bind, Sem.run_pure, Result.andThen_ok, List.map_toArray, List.map_cons, List.map_nil, hs, hx, hr]
  exact hK _ _ (h v' w' h2 h3)

theorem Row.kept {w w' : World} {B : Nat} {v : Value} {l : List UInt8} {r : Option Nat} (h : Row w B v l) (hg : w.grownBy w' r) (hne : v.ownBlock ≠ r) : Row w' B v l := by
  obtain ⟨g, cap, rfl, hBg, hgs, hlc, hr, ht⟩ := h
  have hb := hg.block g hgs (fun e => hne (by rw [← e]; rfl))
  exact ⟨g, cap, rfl, hBg, Nat.lt_of_lt_of_le hgs hg.size, hlc, fun j u hu => (World.cell?_of_block (a := ⟨g, 0 + j, none⟩) hb).trans (hr j u hu), fun j hj => ⟨by rw [World.cell?_of_block (a := ⟨g, 0 + j, none⟩) hb]; exact (ht j hj).1, by rw [World.frozen?_of_block (a := ⟨g, 0 + j, none⟩) hb]; exact (ht j hj).2⟩⟩

end Go.Proofs.YtmfpnbmfcoahbaaDoor

/-
  What spec.l1Text answers: the text of parts of four digits; what l1Known answers.
-/
namespace Go.Proofs.YtmfpnbmfcoahbaaDoor
open Go.RowKit
set_option linter.unusedVariables false

theorem below_grown {w w' : World} (h : Below w.heap.size w w') : w.grownBy w' none := ⟨h.os, h.tape, h.output, h.size, fun k hk _ => h.block k hk⟩

theorem grown_bytes {w w1 : World} (h : w.grownBy w1 none) (s : ByteArray) : w.grownBy (Lib.bytesWorld w1 5 s) none :=
  ⟨h.os, h.tape, h.output, by rw [Lib.bytesWorld_size]; have := h.size; omega, fun k hk _ => by rw [Lib.bytesWorld_at_old w1 5 s k (Nat.lt_of_lt_of_le hk h.size)]; exact h.block k hk (by simp)⟩

theorem hideT {p : Prop} (h : p) : Hid p := h

/-- Four digits. -/
def dig4 (x : Nat) : List UInt8 := [db (x / 1000), db (x / 100 % 10), db (x / 10 % 10), db (x % 10)]
theorem dig4_ok (x : Nat) (h : x < 10000) : (dig4 x).all isDig = true ∧ (dig4 x).length = 4 ∧ dval (dig4 x) = x := by
  have a := db_dig (x / 1000) (by omega)
  have b := db_dig (x / 100 % 10) (by omega)
  have c := db_dig (x / 10 % 10) (by omega)
  have d := db_dig (x % 10) (by omega)
  refine ⟨by simp [dig4, a.1, b.1, c.1, d.1], rfl, ?_⟩
  simp only [dig4, dval, List.foldl_cons, List.foldl_nil, a.2, b.2, c.2, d.2]; omega

theorem news4 (w : World) (x : Nat) (y : Int) (hy : y = (x : Int)) (h : x < 10000) : ∀ j u, (Lib.byteCells (dig4 x))[j]? = some u →
    (w.alloc (.cells #[.int .u8 (48 + y / 1000), .int .u8 (48 + y / 100 % 10), .int .u8 (48 + y / 10 % 10), .int .u8 (48 + y % 10)] 5)).cell? ((⟨w.heap.size, 0, none⟩ : Addr).add j) = some u := by
  intro j u hu
  have e : (⟨w.heap.size, 0, none⟩ : Addr).add j = ⟨w.heap.size, j, none⟩ := by unfold Addr.add; split <;> simp_all
  rw [e, cell_of_row _ _ _ _ _ _ (heap_alloc_new w _)]
  have a := db_nat (x / 1000) (by omega)
  have b := db_nat (x / 100 % 10) (by omega)
  have c := db_nat (x / 10 % 10) (by omega)
  have d := db_nat (x % 10) (by omega)
  have hj : j < 4 := by have := (List.getElem?_eq_some_iff.1 hu).1; rw [bc_len] at this; exact this
  simp only [Lib.byteCells, dig4, List.map_cons, List.map_nil, a, b, c, d] at hu
  have e1 : (((x / 1000 : Nat) : Nat) : Int) = y / 1000 := by omega
  have e2 : (((x / 100 % 10 : Nat) : Nat) : Int) = y / 100 % 10 := by omega
  have e3 : (((x / 10 % 10 : Nat) : Nat) : Int) = y / 10 % 10 := by omega
  have e4 : (((x % 10 : Nat) : Nat) : Int) = y % 10 := by omega
  rw [e1, e2, e3, e4] at hu
  simpa using hu

/-- The numeral so far: the parts from g on. -/
structure Said4 (p : List Int) (g : Nat) (l : List UInt8) : Prop where
  canon : canonB l = true
  val : (dval l : Int) = vb 10000 (p.drop g)
  pos : dval l ≠ 0
  len : l.length ≤ 4 * (p.length - g) + 4

theorem drop_val4 (p : List Int) (g : Nat) (h : g < p.length) : vb 10000 (p.drop g) = p.getD g 0 + 10000 * vb 10000 (p.drop (g + 1)) := by
  rw [List.drop_eq_getElem_cons h]; simp [vb, List.getD, h]

theorem Said4.start {p : List Int} {g : Nat} {l : List UInt8} {x : Nat} (hg : g < p.length) (hc : canonB l = true) (hv : dval l = x) (hx : (x : Int) = p.getD g 0) (h0 : p.getD g 0 ≠ 0) (hlt : x < 10000) (out : ∀ i, g < i → p.getD i 0 = 0) : Said4 p g l := by
  refine ⟨hc, ?_, by rw [hv]; omega, ?_⟩
  · rw [hv, drop_val4 p g hg, hx, vb_zero _ _ (fun i => by rw [getD_drop]; exact out _ (by omega))]; simp
  · have := (canon_len_le hc 4 (by omega)).2 (by rw [hv]; omega); omega

theorem Said4.step {p : List Int} {g : Nat} {l : List UInt8} {x : Nat} (h : Said4 p (g + 1) l) (hg : g < p.length) (hx : (x : Int) = p.getD g 0) (hlt : x < 10000) : Said4 p g (l ++ dig4 x) := by
  obtain ⟨h1, h2, h3⟩ := dig4_ok x hlt
  refine ⟨canon_append h.canon h.pos h1, ?_, ?_, ?_⟩
  · rw [dval_append, h2, h3, drop_val4 p g hg, ← h.val, ← hx]; simp; omega
  · have := h.pos
    rw [dval_append, h2]
    have : 1 ≤ dval l * 10 ^ 4 := Nat.mul_pos (by omega) (by omega)
    omega
  · have := h.len; simp [h2]; omega

theorem row_len {n q zn : Nat} {l : List Int} {txt : List UInt8} (hN : n = l.length) (hll : txt.length ≤ 4 * (l.length - (q + 1)) + 4) (hl : n ≤ 3000) : txt.length + (dig4 zn).length ≤ 100000 := by
  have : (dig4 zn).length = 4 := rfl
  omega

theorem getD_bd {l : List Int} (bd : ∀ x ∈ l, 0 ≤ x ∧ x < 10000) (i : Nat) : 0 ≤ l.getD i 0 ∧ l.getD i 0 < 10000 := by
  by_cases h : i < l.length
  · have := bd l[i] (List.getElem_mem h); simpa [List.getD, h] using this
  · simp [List.getD, List.getElem?_eq_none (Nat.le_of_not_lt h)]

set_option maxHeartbeats 1000000 in
set_option maxRecDepth 100000 in
theorem l1Text_any (B : Nat) (v : Value) (l : List Int) (w : World) (hown : w.ownsRow B 3 1 v l.length (ints l)) (hn : 0 < l.length) (hl : l.length ≤ 3000) (bd0 : ∀ x ∈ l, 0 ≤ x ∧ x < 10000) :
    Calls Tryd.prog 77 #[v] w fun e w' => ∃ s : ByteArray, e = .returned (.string s) ∧ canonB s.data.toList = true ∧ (dval s.data.toList : Int) = vb 10000 l ∧ Below w.heap.size w w' := by
  obtain ⟨g, cap, rfl, hBg, hgs, hnc, hcm⟩ := own_form hown hn
  have hbd : Hid (∀ i, 0 ≤ l.getD i 0 ∧ l.getD i 0 < 10000) := getD_bd bd0
  obtain ⟨n, hnl⟩ : ∃ n, n = l.length := ⟨_, rfl⟩
  have HN : Hid (n = l.length) := hnl
  rw [← hnl] at hown hn hl hnc
  rw [← hnl]
  unfold maxLen at hcm
  clear bd0 hnl
  go_enter Tryd.func77, Tryd.ntmps77
  go_wp2
  go_loopg [3] n (fun gh x wr => w = wr ∧ gh ≤ n ∧ x = .int .i64 (gh : Int) ∧ Hid (∀ i, gh ≤ i → l.getD i 0 = 0))
  case atStart => exact ⟨rfl, Nat.le_refl _, rfl, fun i hi => by have := HN.out; simp [List.getD, List.getElem?_eq_none (show l.length ≤ i by omega)]⟩
  case round =>
    obtain ⟨rfl, hgn, rfl, hz⟩ := hrel
    cases gk with
    | zero =>
      have hv : Hid (vb 10000 l = 0) := vb_zero _ _ (fun i => hz.out i (Nat.zero_le _))
      go_wp2
      go_ret
      exact ⟨⟨#[48]⟩, rfl, by decide, by rw [hv.out]; decide, Below.refl _ _⟩
    | succ j =>
      have c1 := own_cell hown j (by have := HN.out; omega)
      obtain ⟨y, hy⟩ : ∃ y, y = l.getD j 0 := ⟨_, rfl⟩
      have hyb : 0 ≤ y ∧ y < 10000 := by rw [hy]; exact hbd.out j
      obtain ⟨hy0, hy1⟩ := hyb
      rw [← hy] at c1
      have HY : Hid (y = l.getD j 0) := hy
      clear hy
      by_cases hy : y = 0
      · subst hy
        go_wp2
        go_roundg j
        case measure => omega
        case rel =>
          refine ⟨rfl, by omega, rfl, fun i hi => ?_⟩
          by_cases e : i = j
          · rw [e]; exact HY.out.symm
          · exact hz.out i (by omega)
      · have hyf : (y == 0) = false := by simpa using hy
        have hy2 : 1 ≤ y := by omega
        have hj0 : ((j : Int) + 1 == 0) = false := by rw [beq_eq_false_iff_ne]; omega
        have kb := fun (W : World) (s : ByteArray) => Lib.run_convert_string_bytes (P := Tryd.prog) W 9 22 5 s Tryd.underlying9 Tryd.underlying22 Tryd.underlying5
        obtain ⟨yn, hyn⟩ := Int.eq_ofNat_of_zero_le hy0
        have HYN : Hid (y = (yn : Int) ∧ yn < 10000) := ⟨hyn, by omega⟩
        have hnum := l1Num_any yn (by omega)
        have hyn' : y = (yn : Int) := hyn
        rw [← hyn'] at hnum
        have HNUM := hideT hnum
        clear hy hyn hyn' hnum c1
        have c1 := own_cell hown j (by have := HN.out; omega)
        rw [← HY.out] at c1
        go_wp2_with fail
        refine (HNUM.out w).mono ?_
        rintro e w1 ⟨s, rfl, hsc, hsv, hW1⟩
        have hS : Hid (Said4 l j s.data.toList) := Said4.start (by have := HN.out; omega) hsc hsv (by rw [← HYN.out.1]; exact HY.out) (by rw [← HY.out]; omega) HYN.out.2 (fun i hi => hz.out i (by omega))
        clear hsc hsv HNUM c1
        go_wp2_with fail
        have hR := Row.ofText w1 s
        have hg2 : w.grownBy (Lib.bytesWorld w1 5 s) none := grown_bytes (below_grown hW1) s
        have hown2 := hown.kept hg2 (by simp [Value.ownBlock])
        have hB2 : Below w.heap.size w (Lib.bytesWorld w1 5 s) := (Below.refl _ _).grown hg2 (Nat.le_refl _) (by intro k hk; cases hk)
        have hs1 := hW1.size
        have hsl : s.data.toList.length = s.size := by simp
        have hws : w1.heap.size ≤ (Lib.bytesWorld w1 5 s).heap.size := by rw [Lib.bytesWorld_size]; omega
        go_loopg [4, 5] j (fun gh v x wr => ∃ txt : List UInt8, gh ≤ j ∧ x = .int .i64 ((gh : Int) - 1) ∧ Row wr w1.heap.size v txt ∧ Hid (Said4 l gh txt) ∧ wr.ownsRow B 3 1 (.slice (some ⟨g, 0, none⟩) n cap) n (ints l) ∧ Below w.heap.size w wr ∧ w1.heap.size ≤ wr.heap.size)
        case atStart => exact ⟨_, Nat.le_refl _, by go_num, hR, hS, hown2, hB2, hws⟩
        case round =>
          obtain ⟨txt, hgj, rfl, hRow, hS2, hown3, hW3, hws3⟩ := hrel
          clear hR hS hown2 hB2 hg2 hws hown
          cases gk with
          | zero =>
            have hcv := hRow.conv
            have hv := hS2.out.val
            rw [List.drop_zero] at hv
            have HV : Hid (canonB txt = true ∧ (dval txt : Int) = vb 10000 l) := ⟨hS2.out.canon, hv⟩
            clear hv
            go_wp2
            go_ret
            exact ⟨⟨txt.toArray⟩, rfl, by simpa using HV.out.1, by simpa using HV.out.2, hW3⟩
          | succ q =>
            have hq := HN.out
            have c2 := own_cell hown3 q (by omega)
            obtain ⟨z, hz2⟩ : ∃ z, z = l.getD q 0 := ⟨_, rfl⟩
            have hzb : 0 ≤ z ∧ z < 10000 := by rw [hz2]; exact hbd.out q
            obtain ⟨hz3, hz4⟩ := hzb
            rw [← hz2] at c2
            obtain ⟨zn, hzn⟩ := Int.eq_ofNat_of_zero_le hz3
            have HZ : Hid (z = (zn : Int) ∧ zn < 10000 ∧ z = l.getD q 0) := ⟨hzn, by omega, hz2⟩
            have hll := hS2.out.len
            have hq3 : (q : Int) < (n : Int) := by omega
            have hnw := news4 wr zn z hzn (by omega)
            have HNW := hideT hnw
            have hrk := hRow.kept (World.grownBy_alloc wr (.cells #[.int .u8 (48 + z / 1000), .int .u8 (48 + z / 100 % 10), .int .u8 (48 + z / 10 % 10), .int .u8 (48 + z % 10)] 5) none) (by obtain ⟨g', c', rfl, _⟩ := hRow; simp [Value.ownBlock])
            have HRK := hideT hrk
            have hd4 : 4 = (dig4 zn).length := rfl
            have HD4 := hideT hd4
            clear hz2 hzn hq hnw hrk hd4
            go_wp2_with (first | (at_builtin; refine append_row rfl _ _ rfl w1.heap.size _ txt rfl HRK.out ⟨wr.heap.size, 0, none⟩ 4 (dig4 zn) 4 HD4.out rfl HNW.out (by simp; omega) (row_len HN.out hll hl) ?_; intro v' w4 hrow4 hgr4))
            go_roundg q
            case measure => omega
            case rel =>
              obtain ⟨hz5, hz6, hz7⟩ := HZ.out
              have hge : ∀ k, Value.ownBlock u4 = some k → w1.heap.size ≤ k := fun k hk => by
                obtain ⟨g', c', e, hb, _⟩ := hRow
                rw [e] at hk; simp [Value.ownBlock] at hk; omega
              have ha := World.grownBy_alloc wr (.cells #[.int .u8 (48 + z / 1000), .int .u8 (48 + z / 100 % 10), .int .u8 (48 + z / 10 % 10), .int .u8 (48 + z % 10)] 5) none
              have ho4 := (hown3.kept ha (by simp [Value.ownBlock])).kept hgr4 (.inr (fun e => by
                have := hge g (Eq.symm e); omega))
              have hB4 : Below w.heap.size w w4 := (hW3.alloc (by omega) _).grown hgr4 (by simp; omega) (fun k hk => by have := hge k hk; omega)
              have hsz := hgr4.size
              simp only [World.size_alloc] at hsz
              exact ⟨txt ++ dig4 zn, by omega, by go_num, hrow4, hS2.out.step (by have := HN.out; omega) (by rw [← hz5]; exact hz7) hz6, ho4, hB4, by omega⟩

/-- What l1Known answers. -/
theorem l1Known_any (s : ByteArray) (w : World) (hs : s.size ≤ maxLen) :
    Calls Tryd.prog 55 #[.string s] w fun e w' => e = (if s.size ≤ 600 then .returned (.tuple #[.string s, .bool true]) else .returned (.tuple #[.string ⟨#[]⟩, .bool false])) ∧ w' = w := by
  unfold maxLen at hs
  by_cases h : s.size ≤ 600
  · have h' : ¬ (600 : Int) < (s.size : Int) := by omega
    rw [if_pos h]
    go_enter Tryd.func55, Tryd.ntmps55
    go_wp2
    go_ret2
    exact ⟨rfl, rfl⟩
  · have h' : (600 : Int) < (s.size : Int) := by omega
    rw [if_neg h]
    go_enter Tryd.func55, Tryd.ntmps55
    go_wp2
    go_ret2
    exact ⟨rfl, rfl⟩

end Go.Proofs.YtmfpnbmfcoahbaaDoor
