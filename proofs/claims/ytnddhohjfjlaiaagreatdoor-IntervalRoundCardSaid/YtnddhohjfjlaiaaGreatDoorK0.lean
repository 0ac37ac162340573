/-
  Dyadic numbers: powers of 2, the numbers of at most k bits next to a number, odd parts, the canonical form: mathematics.
-/
import Derived.WalkKit
namespace Go.Proofs.YtnddhohjfjlaiaaGreatDoor
open Go.RowKit
set_option linter.unusedVariables false
set_option linter.unusedSimpArgs false

/-- 2 to a power. -/
def p2 (e : Int) : Rat := (2 : Rat) ^ e
theorem p2_pos (e : Int) : 0 < p2 e := Rat.zpow_pos (by decide)
theorem p2_ne (e : Int) : p2 e ≠ 0 := fun h => by have := p2_pos e; rw [h] at this; exact absurd this (by decide)
theorem p2_zero : p2 0 = 1 := Rat.zpow_zero _
theorem p2_add (a b : Int) : p2 (a + b) = p2 a * p2 b := Rat.zpow_add (by decide) a b
theorem p2_nat (n : Nat) : p2 (n : Int) = ((2 ^ n : Nat) : Rat) := by
  unfold p2
  rw [Rat.zpow_natCast, Rat.natCast_pow]
  rfl
theorem p2_nat' (n : Nat) : p2 (n : Int) = (((2 ^ n : Nat) : Int) : Rat) := by rw [p2_nat]; simp
theorem p2_neg (e : Int) : p2 (-e) = (p2 e)⁻¹ := Rat.zpow_neg _ _
theorem p2_inv (e : Int) : p2 e * p2 (-e) = 1 := by
  rw [← p2_add, Int.add_right_neg, p2_zero]
theorem le_p2 {a b c : Rat} {e : Int} (h : a * p2 e ≤ b * p2 e) : a ≤ b := Rat.le_of_mul_le_mul_right h (p2_pos e)
theorem lt_p2 {a b c : Rat} {e : Int} (h : a * p2 e < b * p2 e) : a < b := Rat.lt_of_mul_lt_mul_right h (Rat.le_of_lt (p2_pos e))
theorem p2_le {a b : Rat} (e : Int) (h : a ≤ b) : a * p2 e ≤ b * p2 e := Rat.mul_le_mul_of_nonneg_right h (Rat.le_of_lt (p2_pos e))
theorem p2_lt {a b : Rat} (e : Int) (h : a < b) : a * p2 e < b * p2 e := Rat.mul_lt_mul_of_pos_right h (p2_pos e)
theorem int_le {a b : Int} : (a : Rat) ≤ (b : Rat) ↔ a ≤ b := Rat.intCast_le_intCast
theorem int_lt {a b : Int} : (a : Rat) < (b : Rat) ↔ a < b := Rat.intCast_lt_intCast

/-- A number of at most k bits times a power of 2. -/
def Dk (k : Nat) (q : Rat) : Prop := ∃ n e : Int, n.natAbs < 2 ^ k ∧ q = (n : Rat) * p2 e
/-- The greatest number of at most k bits that is at most x. -/
def IsDn (k : Nat) (x y : Rat) : Prop := Dk k y ∧ y ≤ x ∧ ∀ z, Dk k z → z ≤ x → z ≤ y
/-- The least one that is at least x. -/
def IsUp (k : Nat) (x y : Rat) : Prop := Dk k y ∧ x ≤ y ∧ ∀ z, Dk k z → x ≤ z → y ≤ z

theorem Dk.neg {k : Nat} {q : Rat} (h : Dk k q) : Dk k (-q) := by
  obtain ⟨n, e, h1, h2⟩ := h
  refine ⟨-n, e, by simpa using h1, ?_⟩
  rw [h2, Rat.intCast_neg, Rat.neg_mul]
theorem Dk.mono {j k : Nat} {q : Rat} (h : Dk j q) (hk : j ≤ k) : Dk k q := by
  obtain ⟨n, e, h1, h2⟩ := h
  exact ⟨n, e, Nat.lt_of_lt_of_le h1 (Nat.pow_le_pow_right (by decide) hk), h2⟩
theorem Dk.zero (k : Nat) : Dk k 0 := ⟨0, 0, by simpa using Nat.two_pow_pos k, by simp⟩
theorem IsDn.neg {k : Nat} {x y : Rat} (h : IsDn k x y) : IsUp k (-x) (-y) := by
  obtain ⟨h1, h2, h3⟩ := h
  refine ⟨h1.neg, by grind, fun z hz hx => ?_⟩
  have := h3 (-z) hz.neg (by grind)
  grind
theorem IsUp.neg {k : Nat} {x y : Rat} (h : IsUp k x y) : IsDn k (-x) (-y) := by
  obtain ⟨h1, h2, h3⟩ := h
  refine ⟨h1.neg, by grind, fun z hz hx => ?_⟩
  have := h3 (-z) hz.neg (by grind)
  grind
theorem IsDn.uniq {k : Nat} {x y z : Rat} (h : IsDn k x y) (h' : IsDn k x z) : y = z :=
  Rat.le_antisymm (h'.2.2 y h.1 h.2.1) (h.2.2 z h'.1 h'.2.1)
theorem IsUp.uniq {k : Nat} {x y z : Rat} (h : IsUp k x y) (h' : IsUp k x z) : y = z :=
  Rat.le_antisymm (h.2.2 z h'.1 h'.2.1) (h'.2.2 y h.1 h.2.1)
theorem IsDn.mono {k : Nat} {x x' y y' : Rat} (h : IsDn k x y) (h' : IsDn k x' y') (hx : x ≤ x') : y ≤ y' :=
  h'.2.2 y h.1 (Rat.le_trans h.2.1 hx)
theorem IsUp.mono {k : Nat} {x x' y y' : Rat} (h : IsUp k x y) (h' : IsUp k x' y') (hx : x ≤ x') : y ≤ y' :=
  h.2.2 y' h'.1 (Rat.le_trans hx h'.2.1)
theorem IsDn.more {j k : Nat} {x y y' : Rat} (h : IsDn j x y) (h' : IsDn k x y') (hk : j ≤ k) : y ≤ y' :=
  h'.2.2 y (h.1.mono hk) h.2.1
theorem IsUp.more {j k : Nat} {x y y' : Rat} (h : IsUp j x y) (h' : IsUp k x y') (hk : j ≤ k) : y' ≤ y :=
  h'.2.2 y (h.1.mono hk) h.2.1
theorem IsDn.exact {k : Nat} {x y : Rat} (h : IsDn k x y) : y = x ↔ Dk k x := by
  constructor
  · rintro rfl; exact h.1
  · intro hx; exact Rat.le_antisymm h.2.1 (h.2.2 x hx Rat.le_refl)
theorem IsUp.exact {k : Nat} {x y : Rat} (h : IsUp k x y) : y = x ↔ Dk k x := by
  constructor
  · rintro rfl; exact h.1
  · intro hx; exact Rat.le_antisymm (h.2.2 x hx Rat.le_refl) h.2.1
theorem dn_zero (k : Nat) : IsDn k 0 0 := ⟨Dk.zero k, Rat.le_refl, fun z _ h => h⟩
theorem up_zero (k : Nat) : IsUp k 0 0 := ⟨Dk.zero k, Rat.le_refl, fun z _ h => h⟩

/-- Between neighbours of k bits there is no number of k bits. -/
theorem no_between {k q : Nat} {e : Int} (hk : 1 ≤ k) (h1 : 2 ^ (k - 1) ≤ q) {z : Rat} (hz : Dk k z) (hl : ((q : Int) : Rat) * p2 e < z) (hh : z < (((q : Int) + 1 : Int) : Rat) * p2 e) : False := by
  obtain ⟨n, f, hn, rfl⟩ := hz
  rcases Int.lt_or_le f e with hf | hf
  · obtain ⟨j, hj⟩ : ∃ j : Nat, e = f + ((j + 1 : Nat) : Int) := ⟨(e - f - 1).toNat, by omega⟩
    have he : p2 e = (((2 ^ (j + 1) : Nat) : Int) : Rat) * p2 f := by rw [hj, p2_add, p2_nat', Rat.mul_comm]
    rw [he, ← Rat.mul_assoc, ← Rat.intCast_mul] at hl
    have h2 := int_lt.1 (lt_p2 (c := 0) hl)
    have h3 : q * 2 ^ (j + 1) < n.natAbs := by
      have : ((q * 2 ^ (j + 1) : Nat) : Int) < n := by rw [Int.natCast_mul]; exact h2
      omega
    have h4 : 2 ^ k ≤ q * 2 ^ (j + 1) := by
      have e1 : 2 ^ k = 2 ^ (k - 1) * 2 := by rw [← Nat.pow_succ]; congr 1; omega
      rw [e1]
      refine Nat.mul_le_mul h1 ?_
      rw [Nat.pow_succ]
      have := Nat.two_pow_pos j
      omega
    omega
  · obtain ⟨j, hj⟩ : ∃ j : Nat, f = e + (j : Int) := ⟨(f - e).toNat, by omega⟩
    have he : (n : Rat) * p2 f = ((n * ((2 ^ j : Nat) : Int) : Int) : Rat) * p2 e := by
      rw [hj, p2_add, p2_nat', Rat.intCast_mul, Rat.mul_assoc, Rat.mul_comm (p2 e)]
    rw [he] at hl hh
    have h2 := int_lt.1 (lt_p2 (c := 0) hl)
    have h3 := int_lt.1 (lt_p2 (c := 0) hh)
    omega

theorem dk_of {k q : Nat} (e : Int) (h : q < 2 ^ k) : Dk k (((q : Int) : Rat) * p2 e) := ⟨q, e, by simpa using h, rfl⟩
theorem dk_le {k q : Nat} (hk : 1 ≤ k) (e : Int) (h : q ≤ 2 ^ k) : Dk k (((q : Int) : Rat) * p2 e) := by
  rcases Nat.lt_or_eq_of_le h with h | h
  · exact dk_of e h
  · refine ⟨1, k + e, ?_, ?_⟩
    · have : 2 ^ 1 ≤ 2 ^ k := Nat.pow_le_pow_right (by decide) hk
      have : (1 : Int).natAbs = 1 := rfl
      omega
    · rw [h, p2_add, p2_nat']
      simp
theorem near_dn {k q : Nat} {e : Int} {x : Rat} (hk : 1 ≤ k) (h1 : 2 ^ (k - 1) ≤ q) (h2 : q < 2 ^ k) (h3 : ((q : Int) : Rat) * p2 e ≤ x) (h4 : x < (((q : Int) + 1 : Int) : Rat) * p2 e) : IsDn k x (((q : Int) : Rat) * p2 e) := by
  refine ⟨dk_of e h2, h3, fun z hz hx => ?_⟩
  refine Rat.not_lt.1 fun hlt => ?_
  exact no_between hk h1 hz hlt (by grind)
theorem near_up {k q : Nat} {e : Int} {x : Rat} (hk : 1 ≤ k) (h1 : 2 ^ (k - 1) ≤ q) (h2 : q < 2 ^ k) (h3 : ((q : Int) : Rat) * p2 e < x) (h4 : x < (((q : Int) + 1 : Int) : Rat) * p2 e) : IsUp k x ((((q + 1 : Nat) : Int) : Rat) * p2 e) := by
  refine ⟨dk_le hk e (by omega), ?_, fun z hz hx => ?_⟩
  · have : (((q + 1 : Nat) : Int) : Rat) = (((q : Int) + 1 : Int) : Rat) := by simp
    rw [this]
    exact Rat.le_of_lt h4
  · refine Rat.not_lt.1 fun hlt => ?_
    exact no_between hk h1 hz (by have h5 := hx; have h6 := h3; revert h5 h6; generalize ((q : Int) : Rat) * p2 e = u; intro h5 h6; grind) (by simpa using hlt)
theorem near_eq {k q : Nat} {e : Int} {x : Rat} (h2 : q < 2 ^ k) (h3 : ((q : Int) : Rat) * p2 e = x) : IsUp k x (((q : Int) : Rat) * p2 e) ∧ IsDn k x (((q : Int) : Rat) * p2 e) := by
  subst h3
  exact ⟨⟨dk_of e h2, Rat.le_refl, fun z _ h => h⟩, ⟨dk_of e h2, Rat.le_refl, fun z _ h => h⟩⟩

/-- The number of bits. -/
def bl (n : Nat) : Nat := if n = 0 then 0 else n.log2 + 1
theorem bl_lt (n : Nat) : n < 2 ^ bl n := by
  unfold bl
  split
  · rename_i h; subst h; decide
  · exact Nat.lt_log2_self
theorem bl_le {n : Nat} (h : n ≠ 0) : 2 ^ (bl n - 1) ≤ n := by
  unfold bl
  rw [if_neg h]
  exact Nat.log2_self_le h
theorem bl_pos {n : Nat} (h : n ≠ 0) : 1 ≤ bl n := by
  unfold bl
  rw [if_neg h]
  omega
theorem bl_iff {n k : Nat} : bl n ≤ k ↔ n < 2 ^ k := by
  constructor
  · intro h; exact Nat.lt_of_lt_of_le (bl_lt n) (Nat.pow_le_pow_right (by decide) h)
  · intro h
    by_cases h0 : n = 0
    · subst h0; exact Nat.zero_le _
    · have h1 := bl_le h0
      have h2 := bl_pos h0
      have h3 : 2 ^ (bl n - 1) < 2 ^ k := by omega
      have := (Nat.pow_lt_pow_iff_right (by decide : 1 < 2)).1 h3
      omega

/-- The quotient with an exponent, rounded down. -/
def scn (N D : Nat) (e : Int) : Nat := if 0 < e then N / (D * 2 ^ e.toNat) else N * 2 ^ (-e).toNat / D
theorem q_div {n d : Nat} (hd : 0 < d) : (((n / d : Nat) : Int) : Rat) ≤ (n : Rat) / (d : Rat) ∧ (n : Rat) / (d : Rat) < (((n / d : Nat) + 1 : Int) : Rat) := by
  have hd' : (0 : Rat) < (d : Rat) := by rw [← Rat.intCast_natCast]; exact int_lt.2 (by omega : (0 : Int) < (d : Int))
  constructor
  · refine Rat.not_lt.1 fun h => ?_
    rw [Rat.div_lt_iff hd'] at h
    have h1 : ((n : Int) : Rat) < ((((n / d : Nat) : Int) * (d : Int) : Int) : Rat) := by rw [Rat.intCast_mul, Rat.intCast_natCast n, Rat.intCast_natCast d]; exact h
    have h2 := int_lt.1 h1
    have h3 := Nat.div_mul_le_self n d
    have : ((n / d * d : Nat) : Int) = ((n / d : Nat) : Int) * (d : Int) := Int.natCast_mul _ _
    omega
  · rw [Rat.div_lt_iff hd']
    have h1 : (n : Int) < (((n / d : Nat) : Int) + 1) * (d : Int) := by
      have h3 := Nat.lt_div_mul_add (a := n) hd
      have : ((n / d * d : Nat) : Int) = ((n / d : Nat) : Int) * (d : Int) := Int.natCast_mul _ _
      rw [Int.add_mul, Int.one_mul]
      omega
    have := int_lt.2 h1
    rw [Rat.intCast_mul, Rat.intCast_natCast n, Rat.intCast_natCast d] at this
    exact this
theorem scn_frac (N D : Nat) (hD : 0 < D) (e : Int) : ∃ n d : Nat, 0 < d ∧ scn N D e = n / d ∧ (N : Rat) / (D : Rat) = ((n : Rat) / (d : Rat)) * p2 e ∧ (if 0 < e then n = N ∧ d = D * 2 ^ e.toNat else n = N * 2 ^ (-e).toNat ∧ d = D) := by
  have hD' : (D : Rat) ≠ 0 := by have : (0 : Rat) < (D : Rat) := by rw [← Rat.intCast_natCast]; exact int_lt.2 (by omega : (0 : Int) < (D : Int))
                                 grind
  unfold scn
  split
  · rename_i h
    refine ⟨N, D * 2 ^ e.toNat, Nat.mul_pos hD (Nat.two_pow_pos _), rfl, ?_, rfl, rfl⟩
    obtain ⟨j, rfl⟩ : ∃ j : Nat, e = j := ⟨e.toNat, by omega⟩
    rw [p2_nat, Int.toNat_natCast]
    have hp : ((2 ^ j : Nat) : Rat) ≠ 0 := by rw [← p2_nat]; exact p2_ne _
    rw [Rat.natCast_mul]
    generalize ((2 ^ j : Nat) : Rat) = P at *
    rw [Rat.div_def, Rat.div_def, Rat.inv_mul_rev, Rat.mul_assoc, Rat.mul_assoc, Rat.mul_comm P⁻¹, Rat.mul_assoc]
    rw [Rat.mul_inv_cancel _ hp, Rat.mul_one]
  · rename_i h
    refine ⟨N * 2 ^ (-e).toNat, D, hD, rfl, ?_, rfl, rfl⟩
    obtain ⟨j, rfl⟩ : ∃ j : Nat, e = -(j : Int) := ⟨(-e).toNat, by omega⟩
    have e1 : (- -(j : Int)).toNat = j := by omega
    have hi := p2_inv (j : Int)
    rw [e1, Rat.natCast_mul, ← p2_nat]
    rw [Rat.div_def, Rat.div_def]
    calc (N : Rat) * (D : Rat)⁻¹ = (N : Rat) * (D : Rat)⁻¹ * (p2 (j : Int) * p2 (-(j : Int))) := by rw [hi, Rat.mul_one]
      _ = _ := by grind
theorem scn_le (N D : Nat) (hD : 0 < D) (e : Int) : ((scn N D e : Int) : Rat) * p2 e ≤ (N : Rat) / (D : Rat) := by
  obtain ⟨n, d, hd, h1, h2, _⟩ := scn_frac N D hD e
  rw [h1, h2]
  exact p2_le e (q_div hd).1
theorem scn_lt (N D : Nat) (hD : 0 < D) (e : Int) : (N : Rat) / (D : Rat) < (((scn N D e : Int) + 1 : Int) : Rat) * p2 e := by
  obtain ⟨n, d, hd, h1, h2, _⟩ := scn_frac N D hD e
  rw [h1, h2]
  exact p2_lt e (q_div hd).2

end Go.Proofs.YtnddhohjfjlaiaaGreatDoor
