/-
  The Chinese remainders: plain facts.
-/
import Derived.Test.YtmfpnbmfcoahbaaGreatDoorBezMath
namespace Go.Proofs.YtmfpnbmfcoahbaaGreatDoor
set_option linter.unusedVariables false

/-- Bezout's numbers make the greatest divisor. -/
theorem bz_sum (A B : Int) (r' : Nat) : ∀ (r : Nat) (x y x' y' : Int), (r : Int) = x * A + y * B → (r' : Int) = x' * A + y' * B →
    ((bz r' r x y x' y').1 : Int) = (bz r' r x y x' y').2.1 * A + (bz r' r x y x' y').2.2 * B ∧ (bz r' r x y x' y').1 = Nat.gcd r r' := by
  induction r' using Nat.strongRecOn with
  | ind r' ih =>
    intro r x y x' y' h h'
    by_cases h0 : r' = 0
    · subst h0
      rw [bz_end]
      exact ⟨h, (Nat.gcd_zero_right r).symm⟩
    · rw [bz_step h0]
      have e : (r : Int) = (r' : Int) * ((r / r' : Nat) : Int) + ((r % r' : Nat) : Int) := by exact_mod_cast (Nat.div_add_mod r r').symm
      have := ih (r % r') (Nat.mod_lt _ (Nat.pos_of_ne_zero h0)) r' x' y' (x - ((r / r' : Nat) : Int) * x') (y - ((r / r' : Nat) : Int) * y') h' (by grind)
      refine ⟨this.1, this.2.trans ?_⟩
      rw [Nat.gcd_comm r r', Nat.gcd_rec r' r, Nat.gcd_comm]
theorem bz_eq (A B : Nat) : ((Nat.gcd A B : Nat) : Int) = (bz B A 1 0 0 1).2.1 * (A : Int) + (bz B A 1 0 0 1).2.2 * (B : Int) ∧ (bz B A 1 0 0 1).1 = Nat.gcd A B := by
  obtain ⟨h1, h2⟩ := bz_sum (A : Int) (B : Int) B A 1 0 0 1 (by simp) (by simp)
  exact ⟨by rw [← h2]; exact h1, h2⟩

/-- The product of a list. -/
def prodL : List Nat → Nat
  | [] => 1
  | m :: l => m * prodL l
theorem prodL_append (l k : List Nat) : prodL (l ++ k) = prodL l * prodL k := by
  induction l with
  | nil => simp [prodL]
  | cons m l ih => rw [List.cons_append, prodL, prodL, ih, Nat.mul_assoc]
theorem prodL_dvd {l : List Nat} {m : Nat} (h : m ∈ l) : m ∣ prodL l := by
  induction l with
  | nil => cases h
  | cons o l ih =>
    rw [prodL]
    rcases List.mem_cons.1 h with rfl | h
    · exact Nat.dvd_mul_right _ _
    · exact Nat.dvd_trans (ih h) (Nat.dvd_mul_left _ _)
theorem prodL_pos {l : List Nat} (h : ∀ m ∈ l, 0 < m) : 0 < prodL l := by
  induction l with
  | nil => exact Nat.one_pos
  | cons o l ih => exact Nat.mul_pos (h o (List.mem_cons_self ..)) (ih fun m hm => h m (List.mem_cons_of_mem _ hm))
theorem cop_prod {l : List Nat} {m : Nat} : Nat.Coprime m (prodL l) ↔ ∀ o ∈ l, Nat.Coprime m o := by
  constructor
  · intro h o ho
    exact Nat.Coprime.coprime_dvd_right (prodL_dvd ho) h
  · intro h
    induction l with
    | nil => exact Nat.coprime_one_right m
    | cons o l ih => exact Nat.Coprime.mul_right (h o (List.mem_cons_self ..)) (ih fun m hm => h m (List.mem_cons_of_mem _ hm))
theorem prod_dvd {l : List Nat} {d : Nat} (hp : l.Pairwise Nat.Coprime) (h : ∀ m ∈ l, m ∣ d) : prodL l ∣ d := by
  induction l with
  | nil => exact Nat.one_dvd d
  | cons o l ih =>
    rw [List.pairwise_cons] at hp
    exact Nat.Coprime.mul_dvd_of_dvd_of_dvd (cop_prod.2 hp.1) (h o (List.mem_cons_self ..)) (ih hp.2 fun m hm => h m (List.mem_cons_of_mem _ hm))

/-- The moduli of rests and moduli. -/
def mods (l : List (Nat × Nat)) : List Nat := l.map (·.2)
/-- x leaves the rests. -/
def Leaves (l : List (Nat × Nat)) (x : Nat) : Prop := ∀ p ∈ l, x % p.2 = p.1 % p.2
theorem leaves_le {l : List (Nat × Nat)} {x y : Nat} (hp : (mods l).Pairwise Nat.Coprime) (hx : Leaves l x) (hy : Leaves l y) (hle : x ≤ y) (hly : y < prodL (mods l)) : x = y := by
  have : prodL (mods l) ∣ y - x := by
    refine prod_dvd hp fun m hm => ?_
    obtain ⟨p, hp', rfl⟩ := List.mem_map.1 hm
    exact Nat.dvd_of_mod_eq_zero (Nat.sub_mod_eq_zero_of_mod_eq ((hy p hp').trans (hx p hp').symm))
  have := Nat.eq_zero_of_dvd_of_lt this (by omega)
  omega
theorem leaves_one {l : List (Nat × Nat)} {x y : Nat} (hp : (mods l).Pairwise Nat.Coprime) (hx : Leaves l x) (hy : Leaves l y) (hlx : x < prodL (mods l)) (hly : y < prodL (mods l)) : x = y := by
  rcases Nat.le_total x y with h | h
  · exact leaves_le hp hx hy h hly
  · exact (leaves_le hp hy hx h hlx).symm

theorem mod_of_dvd_sub {a b m : Nat} (h : (m : Int) ∣ (a : Int) - (b : Int)) : a % m = b % m := by
  have h1 : (a : Int) % (m : Int) = (b : Int) % (m : Int) := Int.emod_eq_emod_iff_emod_sub_eq_zero.2 (Int.emod_eq_zero_of_dvd h)
  exact_mod_cast h1
/-- What is left of a whole number: not below 0. -/
def modZ (neg : Bool) (s m : Nat) : Nat := if neg = true ∧ s % m ≠ 0 then m - s % m else s % m
theorem modZ_eq (neg : Bool) (s m : Nat) (hm : 0 < m) : ((modZ neg s m : Nat) : Int) = (if neg then -(s : Int) else (s : Int)) % (m : Int) := by
  have e : (s : Int) = (m : Int) * ((s / m : Nat) : Int) + ((s % m : Nat) : Int) := by exact_mod_cast (Nat.div_add_mod s m).symm
  have hl : s % m < m := Nat.mod_lt _ hm
  unfold modZ
  cases neg
  · simp
  · simp only [true_and, if_true]
    by_cases h0 : s % m = 0
    · rw [if_neg (by simpa using h0), h0]
      rw [h0] at e
      rw [e]
      simp
    · rw [if_pos h0]
      have e2 : -(s : Int) = ((m - s % m : Nat) : Int) + (m : Int) * (-((s / m : Nat) : Int) - 1) := by
        rw [Int.ofNat_sub (Nat.le_of_lt hl)]
        grind
      rw [e2, Int.add_mul_emod_self_left, Int.emod_eq_of_lt (by omega) (by omega)]

/-- The program's step: a class and a rest more. -/
theorem ch_join {c M m r k : Nat} {u v : Int} (hc : c < M) (hm : 0 < m) (he : u * (M : Int) + v * (m : Int) = 1) (hk : (k : Int) = (((r : Int) - (c : Int)) * u) % (m : Int)) :
    c + M * k < M * m ∧ (c + M * k) % m = r % m ∧ ∀ o, o ∣ M → (c + M * k) % o = c % o := by
  have hkm : k < m := by
    have := Int.emod_lt_of_pos (((r : Int) - (c : Int)) * u) (show (0 : Int) < (m : Int) by omega)
    omega
  refine ⟨?_, ?_, ?_⟩
  · have : M * (k + 1) ≤ M * m := Nat.mul_le_mul_left _ hkm
    rw [Nat.mul_succ] at this
    omega
  · refine mod_of_dvd_sub ?_
    have e := Int.emod_add_mul_ediv (((r : Int) - (c : Int)) * u) (m : Int)
    rw [← hk] at e
    generalize ((r : Int) - (c : Int)) * u / (m : Int) = q at e
    refine ⟨-(((r : Int) - (c : Int)) * v) - (M : Int) * q, ?_⟩
    push_cast
    have e2 : (k : Int) = ((r : Int) - (c : Int)) * u - (m : Int) * q := by omega
    rw [e2]
    grind
  · rintro o ⟨d, rfl⟩
    rw [Nat.mul_assoc, Nat.add_mul_mod_self_left]

/-- The model's step: one summand. -/
theorem ch_add {x all m n r inv : Nat} {u v : Int} (hall : all = m * n) (he : u * (n : Int) + v * (m : Int) = 1) (hi : (inv : Int) = u % (m : Int)) (hx : x % m = 0) :
    ((x + r % m * inv * n) % all) % m = r % m ∧ ∀ o, o ∣ n → ((x + r % m * inv * n) % all) % o = x % o := by
  constructor
  · rw [Nat.mod_mod_of_dvd _ ⟨n, hall⟩]
    refine mod_of_dvd_sub ?_
    have e := Int.emod_add_mul_ediv u (m : Int)
    rw [← hi] at e
    generalize u / (m : Int) = q at e
    obtain ⟨d, hd⟩ := Nat.dvd_of_mod_eq_zero hx
    have er : (r : Int) = (m : Int) * ((r / m : Nat) : Int) + ((r % m : Nat) : Int) := by exact_mod_cast (Nat.div_add_mod r m).symm
    generalize ((r / m : Nat) : Int) = rq at er
    have e2 : (inv : Int) = u - (m : Int) * q := by omega
    refine ⟨(d : Int) - ((r % m : Nat) : Int) * v - ((r % m : Nat) : Int) * (n : Int) * q - rq, ?_⟩
    rw [hd, er]
    generalize hs : r % m = s at *
    push_cast
    rw [e2]
    grind
  · intro o ho
    rw [Nat.mod_mod_of_dvd _ (Nat.dvd_trans ho ⟨m, by rw [hall, Nat.mul_comm]⟩)]
    obtain ⟨d, rfl⟩ := ho
    rw [Nat.mul_comm (r % m * inv), Nat.mul_assoc, Nat.add_mul_mod_self_left]

/-- The model's state: the rests so far, and none of the others. -/
def Part (a b : List (Nat × Nat)) (x : Nat) : Prop := Leaves a x ∧ ∀ p ∈ b, x % p.2 = 0
theorem Part.start (b : List (Nat × Nat)) : Part [] b 0 := ⟨fun p hp => (by cases hp), fun p _ => Nat.zero_mod _⟩
theorem mods_append (a b : List (Nat × Nat)) : mods (a ++ b) = mods a ++ mods b := List.map_append
theorem prod_split (a b : List (Nat × Nat)) (p : Nat × Nat) : prodL (mods (a ++ p :: b)) = p.2 * (prodL (mods a) * prodL (mods b)) := by
  rw [mods_append, prodL_append]
  show prodL (mods a) * (p.2 * prodL (mods b)) = _
  rw [Nat.mul_left_comm]
theorem cop_split {a b : List (Nat × Nat)} {p : Nat × Nat} (h : (mods (a ++ p :: b)).Pairwise Nat.Coprime) : Nat.gcd (prodL (mods a) * prodL (mods b)) p.2 = 1 := by
  rw [mods_append, List.pairwise_append] at h
  obtain ⟨h1, h2, h3⟩ := h
  have h2' : (p.2 :: mods b).Pairwise Nat.Coprime := h2
  rw [List.pairwise_cons] at h2'
  have ca : Nat.Coprime p.2 (prodL (mods a)) := cop_prod.2 fun o ho => Nat.Coprime.symm (h3 o ho p.2 (List.mem_cons_self ..))
  have cb : Nat.Coprime p.2 (prodL (mods b)) := cop_prod.2 h2'.1
  exact Nat.Coprime.symm (Nat.Coprime.mul_right ca cb)
theorem Part.step {a b : List (Nat × Nat)} {p : Nat × Nat} {x n inv : Nat} {u v : Int} (h : Part a (p :: b) x) (hn : n = prodL (mods a) * prodL (mods b)) (he : u * (n : Int) + v * (p.2 : Int) = 1) (hi : (inv : Int) = u % (p.2 : Int)) :
    Part (a ++ [p]) b ((x + p.1 % p.2 * inv * n) % prodL (mods (a ++ p :: b))) := by
  obtain ⟨h1, h2⟩ := ch_add (r := p.1) (all := prodL (mods (a ++ p :: b))) (by rw [prod_split, hn]) he hi (h.2 p (List.mem_cons_self ..))
  refine ⟨fun q hq => ?_, fun q hq => ?_⟩
  · rcases List.mem_append.1 hq with hq | hq
    · rw [h2 q.2 (by rw [hn]; exact Nat.dvd_trans (prodL_dvd (List.mem_map.2 ⟨q, hq, rfl⟩)) (Nat.dvd_mul_right _ _))]
      exact h.1 q hq
    · rw [List.mem_singleton] at hq
      subst hq
      exact h1
  · rw [h2 q.2 (by rw [hn]; exact Nat.dvd_trans (prodL_dvd (List.mem_map.2 ⟨q, hq, rfl⟩)) (Nat.dvd_mul_left _ _))]
    exact h.2 q (List.mem_cons_of_mem _ hq)
end Go.Proofs.YtmfpnbmfcoahbaaGreatDoor
