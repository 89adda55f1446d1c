/-
  A row that can be read is added to an empty one: a copy.
-/
import Derived.Test.YtoaancgmahdbnaaYgSetI
namespace Go.Proofs.Ytoaancgmahdbnaa
open Go.RowKit Go.Shelf BL
set_option linter.unusedVariables false
attribute [local go_sem] Oper.semAt_some

theorem append_copy {X : Type} [Inhabited X] {ops : Array Oper} {rest : List Oper} {o : Oper} {a : Act} {w : World} {Q : Exit → Act → World → Prop} (hgd : o.guard = none) (s x : Operand) (t : TypeId)
    (ho : o.op = .call { callee := .builtin .append, args := #[s, x], argTypes := #[t, t] }) (f : X → List Value) (c : Nat) (hc : ∀ x, (f x).length = c) (hc0 : 0 < c) (hone : ∀ x, ∀ u ∈ f x, u.oneCell' = true)
    (e : TypeId) (i : TypeInfo) (z : Value) (bytes : Nat) (ht : Try.prog.underlying t = some (.slice e)) (hi : Try.prog.info? e = some i) (hz : i.zero = some z) (hsize : i.size = c) (hby : i.bytes = bytes) (hzs : z.cells.size = c) (hby2 : bytes ≤ 1000)
    (b B : Nat) (hs : a.eval s = .slice (some ⟨b, 0, none⟩) 0 0) (hb : RowAt w b e #[]) (hB : B ≤ b) (xv : Value) (hx : a.eval x = xv) (l : List X) (hin : InR w xv f c l) (hl : l.length ≤ 1000)
    (h : ∀ v' w', OwnR w' B v' e f c l → w.grownBy w' (some b) → (v'.ownBlock = some b ∨ v'.ownBlock = some w.heap.size) → wpList Try.prog ops Q rest (a.put o.dst v') w') : wpList Try.prog ops Q (o :: rest) a w := by
  have hbl := RowAt.lt hb
  have hown : w.ownsRow B e c (.slice (some ⟨b, 0, none⟩) 0 0) 0 [] := own_of_row (xs := []) (E := []) (by simpa using hb) (by simp) (by simp) (Nat.le_refl _) (by simp) hB
  obtain ⟨o', cap', rfl, hcs⟩ := hin
  by_cases hne : l = []
  · subst hne
    have hrun : ∀ ty, (Builtin.append_ #[t, t] ty #[.slice (some ⟨b, 0, none⟩) 0 0, .slice o' 0 cap']).run Try.prog w = .ok (.slice (some ⟨b, 0, none⟩) 0 0) w := fun ty => by
      cases o' <;> simp [Builtin.append_, run_underlying ht, sizeOf, typeInfo, hi, Builtin.lenOf, Builtin.firstCells, storeCells, loadCells, loadCellsFrom]
    refine wpList_plain hgd fun _ hK => ?_
    unfold Oper.wp execOp
    have hx' : a.eval x = .slice o' 0 cap' := hx
    simp only [ho, resolve, invoke, builtin, Sem.run_bind, Sem.run_pure, Result.andThen_ok, List.map_toArray, List.map_cons, List.map_nil, hs, hx', hrun]
    exact hK _ _ (h _ w hown ⟨rfl, rfl, rfl, Nat.le_refl _, fun _ _ _ => rfl⟩ (.inl rfl))
  · obtain ⟨g, rfl, hgl, hcc⟩ := hcs hne
    have h0 : 0 < l.length := by cases l with | nil => exact absurd rfl hne | cons _ _ => simp
    refine append_own3 w hgd s x t ho B e i z c bytes ht hi hz hsize hby hzs hc0 _ 0 [] hs hown ⟨g, 0, none⟩ l.length cap' (l.flatMap f) hx (rec_len f c hc l) (inR_flat (n := l.length) (cap := cap') hc hc0 hcc) (fun u hu => by obtain ⟨x, _, hx⟩ := List.mem_flatMap.1 hu; exact hone x u hx) h0 (by unfold maxLen; omega) ?_ (by omega) ?_
    · have : (0 + l.length) * bytes ≤ 1000 * 1000 := Nat.mul_le_mul (by omega) hby2
      omega
    · intro v' w' h1 h2 h3
      refine h v' w' ?_ h2 h3
      unfold OwnR
      rw [Nat.zero_add, List.nil_append] at h1
      exact h1
end Go.Proofs.Ytoaancgmahdbnaa
