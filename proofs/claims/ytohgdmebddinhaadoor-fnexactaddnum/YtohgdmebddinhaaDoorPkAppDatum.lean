/-
  The texts AppDatum, RdWord, DatLaw, DatCopy, RdPut, RdPlain, one behind the other.
-/
import Derived.Test.YtohgdmebddinhaaDoorPkSeats
import Derived.Test.YtohgdmebddinhaaDoorPkReadNumA
import Derived.Test.YtohgdmebddinhaaDoorPkSymbol

/-
  What appendDatum of impl answers, by appendParts; and so both.
-/
namespace Go.Proofs.YtohgdmebddinhaaDoor
open Go.RowKit
set_option linter.unusedVariables false

theorem own_grown {w w' : World} {B n : Nat} {v : Value} {xs : List Value} {o : Obj} (h : w.ownsRow B 5 1 v n xs) (hg : (w.alloc o).grownBy w' (some w.heap.size)) : w'.ownsRow B 5 1 v n xs := by
  refine ⟨h.1, ?_⟩
  rcases h.2 with h1 | ⟨g, cap, cur, h1, h2, h3, h4⟩
  · exact .inl h1
  · have hlt : g < w.heap.size := (Array.getElem?_eq_some_iff.1 h3).1
    refine .inr ⟨g, cap, cur, h1, h2, ?_, h4⟩
    rw [hg.block g (by simp; omega) (by intro e; injection e; omega), Below.heap_alloc _ _ _ hlt]
    exact h3
theorem own_block {w : World} {B n : Nat} {v : Value} {xs : List Value} (h : w.ownsRow B 5 1 v n xs) (k : Nat) (hk : w.heap.size ≤ k) : some k ≠ v.ownBlock := by
  rcases h.2 with ⟨rfl, _⟩ | ⟨g, cap, cur, rfl, _, h3, _⟩
  · simp [Value.ownBlock]
  · have hlt : g < w.heap.size := (Array.getElem?_eq_some_iff.1 h3).1
    simp [Value.ownBlock]; omega

theorem own_ne {w : World} {B n k : Nat} {v : Value} {xs : List Value} {t : TypeId} {cs : Array Value} (h : w.ownsRow B 5 1 v n xs) (hR : RowAt w k t cs) (ht : t ≠ 5) : some k ≠ v.ownBlock := by
  rcases h.2 with ⟨rfl, _⟩ | ⟨g, cap, cur, rfl, _, h3, _⟩
  · simp [Value.ownBlock]
  · intro e
    simp [Value.ownBlock] at e
    subst e
    unfold RowAt at hR
    rw [h3] at hR
    injection hR with hR
    injection hR with _ h2 _
    exact ht h2.symm

section
variable {ops : Array Oper} {Q : Exit → Act → World → Prop} {md : Region.Mode} {S : World → Prop} {o : Oper} {fuel : Nat} {listed : Array Bool} {a : Act} {w : World}
/-- Bytes are appended, as the one operation of a drawn region that may come up. -/
theorem held_append (i : Nat) (d : Option Tmp) (hr : Region.ready md ops listed = [i]) (hi : ops[i]? = some o) (hw : Region.wanted o (yielded ops a.tmps) = true) (s x : Operand)
    (ho : o.op = .call { callee := .builtin .append, args := #[s, x], argTypes := #[85, 85] }) (hd : o.dst = d) (B : Nat) (v : Value) (n : Nat) (xs : List Value) (hs : a.eval s = v) (hown : w.ownsRow B 5 1 v n xs)
    (ad : Addr) (m c : Nat) (news : List Value) (hx : a.eval x = .slice (some ad) m c) (hl : news.length = m * 1) (hnews : ∀ j u, news[j]? = some u → w.cell? (ad.add j) = some u) (h1 : ∀ u ∈ news, u.oneCell' = true)
    (h63 : n + m ≤ maxLen) (hbytes : (n + m) * 1 ≤ 140737488355328) (hbase : B ≤ w.heap.size)
    (h : ∀ v' w', w'.ownsRow B 5 1 v' (n + m) (xs ++ news) → w.grownBy w' v.ownBlock → S w' ∧ wpAnyH Tryd.prog md ops Q S fuel (listed.setIfInBounds i true) (a.put d v') w') : wpAnyH Tryd.prog md ops Q S (fuel + 1) listed a w := by
  subst hd
  obtain ⟨i0, hi0, hz0, hz1, hz2⟩ := info_parts info_u8
  refine wpAnyH_ready hr (by simp) (AllReadyH.cons hi (fun K hK => ?_) AllReadyH.nil)
  rw [if_pos hw]
  exact wp_append_own w s x 85 ho B 5 i0 (.int .u8 0) 1 1 Tryd.underlying85 hi0 hz0 hz1 hz2 rfl (by decide) v n xs hs hown ad m c news hx hl hnews h1 h63 hbytes hbase (fun v' w' h2 h3 _ => hK.out _ _ (h v' w' h2 h3).1 (fun _ => (h v' w' h2 h3).2))
/-- A string's bytes are appended, likewise. -/
theorem held_append_str (i : Nat) (d : Option Tmp) (hr : Region.ready md ops listed = [i]) (hi : ops[i]? = some o) (hw : Region.wanted o (yielded ops a.tmps) = true) (s x : Operand)
    (ho : o.op = .call { callee := .builtin .append, args := #[s, x], argTypes := #[85, 9] }) (hd : o.dst = d) (B : Nat) (v : Value) (n : Nat) (xs : List Value) (hs : a.eval s = v) (hown : w.ownsRow B 5 1 v n xs)
    (t : ByteArray) (hx : a.eval x = .string t) (h63 : n + t.size ≤ maxLen) (hbytes : n + t.size ≤ 140737488355328) (hbase : B ≤ w.heap.size)
    (h : ∀ v' w', w'.ownsRow B 5 1 v' (n + t.size) (xs ++ Lib.strCells t) → w.grownBy w' v.ownBlock → S w' ∧ wpAnyH Tryd.prog md ops Q S fuel (listed.setIfInBounds i true) (a.put d v') w') : wpAnyH Tryd.prog md ops Q S (fuel + 1) listed a w := by
  subst hd
  obtain ⟨i0, hi0, hz0, hz1, hz2⟩ := info_parts info_u8
  refine wpAnyH_ready hr (by simp) (AllReadyH.cons hi (fun K hK => ?_) AllReadyH.nil)
  rw [if_pos hw]
  obtain ⟨v', w', hrn, h2, h3, _⟩ := Lib.run_append_own_string (P := Tryd.prog) w B 85 9 o.type 5 i0 Tryd.underlying85 Tryd.underlying9 hi0 hz0 hz1 hz2 v n xs hown t h63 hbytes hbase
  unfold Oper.wp execOp
  simp only [ho, resolve, invoke, builtin, Sem.run_bind, Sem.run_pure, Result.andThen_ok, List.map_toArray, List.map_cons, List.map_nil, hs, hx, hrn]
  exact hK.out _ _ (h v' w' h2 h3).1 (fun _ => (h v' w' h2 h3).2)
end

theorem tx_leaf {l : List Dm} {a : Nat} (ha : a < l.length) (t : ByteArray) (ht : t = dt l a) (hq : dk l a = 1 ∨ dk l a = 2) : TX l a = t.data.toList := by
  rw [TX_eq ha, if_neg (by omega), if_neg (by omega), if_pos hq, ht]
theorem tx_str {l : List Dm} {a : Nat} (ha : a < l.length) (t : ByteArray) (ht : t = dt l a) (hq : dk l a = 3) : TX l a = quo t.data.toList := by
  rw [TX_eq ha, if_pos hq, ht]
theorem tx_bool {l : List Dm} {a : Nat} (ha : a < l.length) (t : ByteArray) (ht : t = dt l a) (hq : dk l a = 4) : TX l a = 35 :: t.data.toList := by
  rw [TX_eq ha, if_neg (by omega), if_pos hq, ht]
theorem tx_list {l : List Dm} {a : Nat} (ha : a < l.length) (hq : dk l a = 5 ∨ dk l a = 6) : TX l a = 40 :: (jnK l (TX l) l.length (a : Int) ++ [41]) := by
  rw [TX_eq ha, if_neg (by omega), if_neg (by omega), if_neg (by omega)]
theorem not_list {q : Int} (h : q ≠ 5) (h' : q ≠ 6) : isL q = false := by unfold isL; rw [decide_eq_false h, decide_eq_false h']; rfl

end Go.Proofs.YtohgdmebddinhaaDoor

/-
  The model's reader: a word, a node put.
-/
namespace Go.Proofs.YtohgdmebddinhaaDoor
open Go.RowKit
set_option linter.unusedVariables false

end Go.Proofs.YtohgdmebddinhaaDoor

/-
  What the laws' own helpers over data answer.
-/
namespace Go.Proofs.YtohgdmebddinhaaDoor
open Go.RowKit
set_option linter.unusedVariables false

/-- Data that came in: their cells. -/
def ArgAt (w : World) (a : Addr) (l : List Dm) : Prop := ∀ i j v, i < l.length → (dmL (l.getD i default))[j]? = some v → w.cell? ((a.add (i * 3)).add j) = some v
section
variable {P : Program}
theorem run_loadVar_addr (w : World) (a : Addr) (ty : TypeId) (cs : List Value) (d : TypeDesc) (hc : ∀ j v, cs[j]? = some v → w.cell? (a.add j) = some v)
    (hu : P.underlying ty = some d) (hd : d.isRow = true) (hi : (P.info? ty).map (·.size) = some cs.length) :
    (loadVar ty a).run P w = .ok (.agg cs.toArray) w := by
  have hl : (loadCells a cs.length).run P w = .ok cs.toArray w := run_loadCells_list (P := P) w a cs hc
  cases hq : P.info? ty with
  | none => simp [hq] at hi
  | some i =>
    have hs : i.size = cs.length := by simpa [hq] using hi
    have hagg : (isAgg ty).run P w = .ok true w := by
      unfold isAgg
      rw [Sem.run_bind, run_underlying hu w]
      cases d <;> simp_all
    simp [loadVar, Sem.run_bind, hagg, sizeOf, typeInfo, hq, hs, hl]
end
/-- A slice of data that came in. -/
def SlIn (w : World) (v : Value) (l : List Dm) : Prop := (v = .slice none 0 0 ∧ l = []) ∨ ∃ (a : Addr) (cap : Nat), v = .slice (some a) l.length cap ∧ ArgAt w a l ∧ (0 < l.length → a.block < w.heap.size)
theorem SlIn.below {w w' : World} {v : Value} {l : List Dm} (h : SlIn w v l) (hB : Below w.heap.size w w') : SlIn w' v l := by
  rcases h with h | ⟨a, cap, rfl, h, hb⟩
  · exact .inl h
  · refine .inr ⟨a, cap, rfl, fun i j u hi hv => ?_, fun hl => Nat.lt_of_lt_of_le (hb hl) hB.size⟩
    rw [hB.cell (by
      have := hb (by omega)
      unfold Addr.add; split <;> split <;> exact this)]
    exact h i j u hi hv

end Go.Proofs.YtohgdmebddinhaaDoor

/-
  The laws' copies of data, and whether two are the same.
-/
namespace Go.Proofs.YtohgdmebddinhaaDoor
open Go.RowKit
set_option linter.unusedVariables false

theorem datC_set (l : List Dm) (i : Nat) (d : Dm) (hi : i < l.length) : datC (l.set i d) = ((l.take i).flatMap dmL ++ dmL d ++ (l.drop (i + 1)).flatMap dmL).toArray := by
  unfold datC
  rw [List.set_eq_take_append_cons_drop, if_pos hi, List.flatMap_append, List.flatMap_cons, List.append_assoc]
theorem datC_split (l : List Dm) (i : Nat) (hi : i < l.length) : datC l = ((l.take i).flatMap dmL ++ dmL l[i] ++ (l.drop (i + 1)).flatMap dmL).toArray := by
  have := datC_set l i l[i] hi
  rwa [List.set_getElem_self] at this
theorem made_dat (n : Nat) : madeCells #[.int .i64 0, .string ⟨#[]⟩, .int .i64 0] (n * 3) = datC (List.replicate n default) := by
  apply Array.ext_getElem?
  intro i
  by_cases hi : i < n * 3
  · have hr : (Array.range (n * 3))[i]? = some i := by rw [Array.getElem?_eq_getElem (by rw [Array.size_range]; omega), Array.getElem_range]
    have h1 := flat_get (List.replicate n default) (i / 3) (i % 3) (by simp; omega) (by omega)
    rw [show 3 * (i / 3) + i % 3 = i by omega] at h1
    have h2 : (datC (List.replicate n default))[i]? = (dmL default)[i % 3]? := by unfold datC; rw [List.getElem?_toArray, h1, List.getElem_replicate]
    rw [h2]
    simp only [madeCells, Array.getElem?_map, hr, Option.map_some]
    rcases (by omega : i % 3 = 0 ∨ i % 3 = 1 ∨ i % 3 = 2) with e | e | e
    all_goals rw [show i % (#[Value.int .i64 0, .string ⟨#[]⟩, .int .i64 0] : Array Value).size = i % 3 from rfl, e]; rfl
  · rw [Array.getElem?_eq_none (by rw [size_madeCells]; omega), Array.getElem?_eq_none]
    unfold datC
    rw [List.size_toArray, dat_len, List.length_replicate]; omega

theorem take_set (l : List Dm) (k : Nat) (hk : k < l.length) : (l.take k ++ List.replicate (l.length - k) default).set k l[k] = l.take (k + 1) ++ List.replicate (l.length - (k + 1)) default := by
  have h1 : (l.take k).length = k := by rw [List.length_take]; omega
  obtain ⟨m, hm⟩ : ∃ m, l.length - k = m + 1 := ⟨l.length - k - 1, by omega⟩
  rw [hm, List.replicate_succ, List.set_append_right _ _ (by omega), h1, Nat.sub_self, List.set_cons_zero, List.take_succ_eq_append_getElem hk, show l.length - (k + 1) = m by omega, List.append_assoc]
  rfl

end Go.Proofs.YtohgdmebddinhaaDoor

/-
  The model's reader: its state, and a node put.
-/
namespace Go.Proofs.YtohgdmebddinhaaDoor
open Go.RowKit
set_option linter.unusedVariables false

/-- A node beyond what may be. -/
def fullB (out : List Dm) (k deep : Int) : Bool := decide (out.length = 300) || (isL k && decide (deep = 25))
/-- A node put: its number, the nodes, the code. -/
def putP (out : List Dm) (c : Int) (d : Dm) (deep : Int) : Int × List Dm × Int := if c ≠ 0 then (0, out, c) else if fullB out d.k deep then (0, out, 4) else ((out.length : Int), out ++ [d], 0)
theorem put_code {out : List Dm} {c : Int} {d : Dm} {deep : Int} (h : c ≠ 0) : putP out c d deep = (0, out, c) := by unfold putP; rw [if_pos h]
theorem put_full {out : List Dm} {d : Dm} {deep : Int} (h : fullB out d.k deep = true) : putP out 0 d deep = (0, out, 4) := by unfold putP; rw [if_neg (by simp), if_pos h]
theorem put_ok {out : List Dm} {d : Dm} {deep : Int} (h : fullB out d.k deep = false) : putP out 0 d deep = ((out.length : Int), out ++ [d], 0) := by unfold putP; rw [if_neg (by simp), h]; rfl
theorem dmL_one (d : Dm) : ∀ u ∈ dmL d, u.oneCell' = true := by
  intro u hu; simp [dmL] at hu; rcases hu with rfl | rfl | rfl <;> rfl

end Go.Proofs.YtohgdmebddinhaaDoor

/-
  What both readers read: the plain reader, with fuel.
-/
namespace Go.Proofs.YtohgdmebddinhaaDoor
open Go.RowKit
set_option linter.unusedVariables false

/-- The text of the number that a word tells. -/
noncomputable def numTx (s : ByteArray) : ByteArray := by
  classical
  exact if h : ∃ t : ByteArray, ∃ o : Bool, ReadAns s (.returned (.tuple #[.string t, .bool o])) then h.choose else ⟨#[]⟩
theorem readAns_eq {s : ByteArray} {e : Ending} (h : ReadAns s e) : e = .returned (.tuple #[.string (numTx s), .bool (numF s.data.toList)]) := by
  obtain ⟨t, rfl⟩ := h.flag
  have hx : ∃ t : ByteArray, ∃ o : Bool, ReadAns s (.returned (.tuple #[.string t, .bool o])) := ⟨t, _, h⟩
  have e1 : numTx s = hx.choose := by unfold numTx; rw [dif_pos hx]
  obtain ⟨o, ho⟩ := hx.choose_spec
  obtain ⟨t', o', e2, e3⟩ := ReadAns.same h ho
  rw [e1]
  rw [e2]
  simp only [Ending.returned.injEq, Value.tuple.injEq] at e2 e3
  have f2 := congrArg (fun a : Array Value => a.toList) e2
  have f3 := congrArg (fun a : Array Value => a.toList) e3
  simp only [List.cons.injEq, Value.string.injEq, Value.bool.injEq] at f2 f3
  rw [f3.1, f2.2.1]

/-- What a word is: the kind, the text. -/
noncomputable def wordD (w : ByteArray) : Option (Int × ByteArray) :=
  if w = ⟨#[35, 116]⟩ ∨ w = ⟨#[35, 116, 114, 117, 101]⟩ then some (4, ⟨#[116]⟩)
  else if w = ⟨#[35, 102]⟩ ∨ w = ⟨#[35, 102, 97, 108, 115, 101]⟩ then some (4, ⟨#[102]⟩)
  else if numF w.data.toList then some (1, numTx w)
  else if symT w.data.toList then some (2, w) else none

/-- A byte of a string: where it goes on, the byte. -/
def escP (s : ByteArray) (k : Nat) : Option (Nat × UInt8) :=
  if byteAt s k = 92 then
    if k + 1 = s.size then none
    else if byteAt s (k + 1) = 34 ∨ byteAt s (k + 1) = 92 then some (k + 2, byteAt s (k + 1))
    else if byteAt s (k + 1) = 110 then some (k + 2, 10) else none
  else some (k + 1, byteAt s k)
def strF (s : ByteArray) : Nat → Nat → List UInt8 → Option (Nat × List UInt8)
  | 0, _, _ => none
  | f + 1, k, t =>
    if k = s.size then none else if byteAt s k = 34 then some (k + 1, t) else
    match escP s k with
    | none => none
    | some (k', b) => if strOk (t ++ [b]) then strF s f k' (t ++ [b]) else none
/-- A string from behind its sign on. -/
def strP (s : ByteArray) (k : Nat) : Option (Nat × List UInt8) := strF s (s.size + 1 - k) k []
/-- A word that is a dot. -/
def isDot (s : ByteArray) (p : Nat) : Bool := (byteAt s p == 46) && (decide (p + 1 = s.size) || stopB (byteAt s (p + 1)))

mutual
noncomputable def oneF (s : ByteArray) : Nat → Nat → Int → Int → Nat → Option (Nat × List Dm)
  | 0, _, _, _, _ => none
  | f + 1, a, up, deep, n =>
    if skipP s a = s.size then none
    else if byteAt s (skipP s a) = 40 then
      if 300 ≤ n ∨ 25 ≤ deep then none
      else match listF s f (skipP s a + 1) n (deep + 1) (n + 1) with
        | none => none
        | some (a', d, ps) => some (a', ⟨if d then 6 else 5, ⟨#[]⟩, up⟩ :: ps)
    else if byteAt s (skipP s a) = 41 then none
    else if byteAt s (skipP s a) = 39 then
      if 299 ≤ n ∨ 25 ≤ deep then none
      else match oneF s f (skipP s a + 1) n (deep + 1) (n + 2) with
        | none => none
        | some (a', ps) => some (a', ⟨5, ⟨#[]⟩, up⟩ :: ⟨2, ⟨#[113, 117, 111, 116, 101]⟩, n⟩ :: ps)
    else if byteAt s (skipP s a) = 34 then
      match strP s (skipP s a + 1) with
      | none => none
      | some (a', t) => if 300 ≤ n then none else some (a', [⟨3, ⟨t.toArray⟩, up⟩])
    else match wordD (s.extract (skipP s a) (wordP s (skipP s a))) with
      | none => none
      | some (k, t) => if 300 ≤ n then none else some (wordP s (skipP s a), [⟨k, t, up⟩])
noncomputable def listF (s : ByteArray) : Nat → Nat → Nat → Int → Nat → Option (Nat × Bool × List Dm)
  | 0, _, _, _, _ => none
  | f + 1, a, k, deep, n =>
    if skipP s a = s.size then none
    else if byteAt s (skipP s a) = 41 then some (skipP s a + 1, false, [])
    else if isDot s (skipP s a) then
      if n = k + 1 ∨ byteAt s (skipP s (skipP s a + 1)) = 40 ∨ byteAt s (skipP s (skipP s a + 1)) = 39 then none
      else match oneF s f (skipP s a + 1) k deep n with
        | none => none
        | some (a', ps) => if skipP s a' ≠ s.size ∧ byteAt s (skipP s a') = 41 then some (skipP s a' + 1, true, ps) else none
    else match oneF s f (skipP s a) k deep n with
      | none => none
      | some (a', ps) => match listF s f a' k deep (n + ps.length) with
        | none => none
        | some (a'', d, qs) => some (a'', d, ps ++ qs)
end
end Go.Proofs.YtohgdmebddinhaaDoor
