/-
  Rounding a quotient to a number of bits, down and up, and how far both are from each other: mathematics.
-/
import Derived.Test.YtnddhohjfjlaiaaGreatDoorK0
namespace Go.Proofs.YtnddhohjfjlaiaaGreatDoor
open Go.RowKit
set_option linter.unusedVariables false
set_option linter.unusedSimpArgs false

theorem nat_pos_rat {d : Nat} (hd : 0 < d) : (0 : Rat) < (d : Rat) := Rat.natCast_pos.2 hd
theorem lt_frac {N D : Nat} {c : Rat} (hD : 0 < D) (h : c * (D : Rat) < (N : Rat)) : c < (N : Rat) / (D : Rat) := by
  have hd := nat_pos_rat hD
  have e : (N : Rat) / (D : Rat) * (D : Rat) = (N : Rat) := by grind
  refine Rat.lt_of_mul_lt_mul_right (c := (D : Rat)) ?_ (Rat.le_of_lt hd)
  rw [e]
  exact h
theorem frac_lo {N D : Nat} (hN : 0 < N) (hD : 0 < D) : p2 ((bl N : Int) - 1 - bl D) < (N : Rat) / (D : Rat) := by
  refine lt_frac hD ?_
  have h1 : (D : Rat) < p2 (bl D : Int) := by rw [p2_nat]; exact Rat.natCast_lt_natCast.2 (bl_lt D)
  have h2 : p2 ((bl N : Int) - 1) ≤ (N : Rat) := by
    have e : (bl N : Int) - 1 = ((bl N - 1 : Nat) : Int) := by have := bl_pos (n := N) (by omega); omega
    rw [e, p2_nat]
    exact Rat.natCast_le_natCast.2 (bl_le (by omega))
  have h3 : p2 ((bl N : Int) - 1 - bl D) * p2 (bl D : Int) = p2 ((bl N : Int) - 1) := by rw [← p2_add]; congr 1; omega
  have h4 := Rat.mul_lt_mul_of_pos_right h1 (p2_pos ((bl N : Int) - 1 - bl D))
  rw [Rat.mul_comm (p2 (bl D : Int)), h3, Rat.mul_comm] at h4
  grind
theorem frac_hi {N D : Nat} (hN : 0 < N) (hD : 0 < D) : (N : Rat) / (D : Rat) < p2 ((bl N : Int) - bl D + 1) := by
  rw [Rat.div_lt_iff (nat_pos_rat hD)]
  have h1 : (N : Rat) < p2 (bl N : Int) := by rw [p2_nat]; exact Rat.natCast_lt_natCast.2 (bl_lt N)
  have h2 : p2 ((bl D : Int) - 1) ≤ (D : Rat) := by
    have e : (bl D : Int) - 1 = ((bl D - 1 : Nat) : Int) := by have := bl_pos (n := D) (by omega); omega
    rw [e, p2_nat]
    exact Rat.natCast_le_natCast.2 (bl_le (by omega))
  have h3 : p2 ((bl D : Int) - 1) * p2 ((bl N : Int) - bl D + 1) = p2 (bl N : Int) := by rw [← p2_add]; congr 1; omega
  have h4 := p2_le ((bl N : Int) - bl D + 1) h2
  rw [h3, Rat.mul_comm] at h4
  grind

/-- The first exponent. -/
def ex0 (N D k : Nat) : Int := (bl N : Int) - bl D - k
theorem ex0_lo {N D k : Nat} (hk : 1 ≤ k) (hN : 0 < N) (hD : 0 < D) : 2 ^ (k - 1) ≤ scn N D (ex0 N D k) := by
  have h1 := frac_lo hN hD
  have h2 := scn_lt N D hD (ex0 N D k)
  have e : p2 ((bl N : Int) - 1 - bl D) = (((2 ^ (k - 1) : Nat) : Int) : Rat) * p2 (ex0 N D k) := by
    rw [← p2_nat', ← p2_add]; congr 1; unfold ex0; omega
  rw [e] at h1
  have h3 : (((2 ^ (k - 1) : Nat) : Int) : Rat) * p2 (ex0 N D k) < ((((scn N D (ex0 N D k) : Nat) : Int) + 1 : Int) : Rat) * p2 (ex0 N D k) := by grind
  have := int_lt.1 (lt_p2 (c := 0) h3)
  omega
theorem ex0_hi {N D k : Nat} (hN : 0 < N) (hD : 0 < D) : scn N D (ex0 N D k) < 2 ^ (k + 1) := by
  have h1 := frac_hi hN hD
  have h2 := scn_le N D hD (ex0 N D k)
  have e : p2 ((bl N : Int) - bl D + 1) = (((2 ^ (k + 1) : Nat) : Int) : Rat) * p2 (ex0 N D k) := by
    rw [← p2_nat', ← p2_add]; congr 1; unfold ex0; omega
  rw [e] at h1
  have h3 : (((scn N D (ex0 N D k) : Nat) : Int) : Rat) * p2 (ex0 N D k) < (((2 ^ (k + 1) : Nat) : Int) : Rat) * p2 (ex0 N D k) := by grind
  have := int_lt.1 (lt_p2 (c := 0) h3)
  omega
/-- The exponent. -/
def rex (N D k : Nat) : Int := if k < bl (scn N D (ex0 N D k)) then ex0 N D k + 1 else ex0 N D k
theorem p2_succ (e : Int) : p2 (e + 1) = ((2 : Int) : Rat) * p2 e := by rw [p2_add, Rat.mul_comm]; congr 1
theorem scn_step (N D : Nat) (hD : 0 < D) (e : Int) : scn N D e < 2 * (scn N D (e + 1) + 1) ∧ 2 * scn N D (e + 1) ≤ scn N D e := by
  have h1 := scn_le N D hD e
  have h2 := scn_lt N D hD e
  have h3 := scn_le N D hD (e + 1)
  have h4 := scn_lt N D hD (e + 1)
  rw [p2_succ, ← Rat.mul_assoc, ← Rat.intCast_mul] at h3 h4
  constructor
  · have h5 : (((scn N D e : Nat) : Int) : Rat) * p2 e < (((((scn N D (e + 1) : Nat) : Int) + 1) * 2 : Int) : Rat) * p2 e := by grind
    have := int_lt.1 (lt_p2 (c := 0) h5)
    omega
  · have h5 : ((((scn N D (e + 1) : Nat) : Int) * 2 : Int) : Rat) * p2 e < ((((scn N D e : Nat) : Int) + 1 : Int) : Rat) * p2 e := by grind
    have := int_lt.1 (lt_p2 (c := 0) h5)
    omega
theorem rex_bd {N D k : Nat} (hk : 1 ≤ k) (hN : 0 < N) (hD : 0 < D) : 2 ^ (k - 1) ≤ scn N D (rex N D k) ∧ scn N D (rex N D k) < 2 ^ k := by
  have h1 := ex0_lo hk hN hD
  have h2 := ex0_hi (k := k) hN hD
  unfold rex
  split
  · rename_i h
    have h3 : ¬ scn N D (ex0 N D k) < 2 ^ k := fun hh => by have := bl_iff.2 hh; omega
    obtain ⟨h4, h5⟩ := scn_step N D hD (ex0 N D k)
    have e1 : 2 ^ k = 2 ^ (k - 1) * 2 := by rw [← Nat.pow_succ]; congr 1; omega
    have e2 : 2 ^ (k + 1) = 2 ^ k * 2 := Nat.pow_succ ..
    omega
  · rename_i h
    exact ⟨h1, bl_iff.1 (by omega)⟩

/-- The remainder that belongs to the quotient. -/
def scr (N D : Nat) (e : Int) : Nat := if 0 < e then N % (D * 2 ^ e.toNat) else N * 2 ^ (-e).toNat % D
theorem scr_zero {N D : Nat} (hD : 0 < D) (e : Int) : scr N D e = 0 ↔ ((scn N D e : Int) : Rat) * p2 e = (N : Rat) / (D : Rat) := by
  obtain ⟨n, d, hd, h1, h2, h3⟩ := scn_frac N D hD e
  have h4 : scr N D e = n % d := by
    unfold scr
    by_cases h : 0 < e
    · rw [if_pos h] at h3 ⊢
      rw [h3.1, h3.2]
    · rw [if_neg h] at h3 ⊢
      rw [h3.1, h3.2]
  have hd' := nat_pos_rat hd
  rw [h4, h1, h2, Rat.intCast_natCast]
  have h5 := Nat.div_add_mod n d
  constructor
  · intro h0
    congr 1
    have h6 : n = d * (n / d) := by omega
    have h7 : (n : Rat) = (d : Rat) * ((n / d : Nat) : Rat) := by rw [← Rat.natCast_mul, ← h6]
    generalize ((n / d : Nat) : Rat) = u at *
    rw [h7]
    grind
  · intro h0
    have hp := p2_ne e
    have h6 : ((n / d : Nat) : Rat) = (n : Rat) / (d : Rat) := by
      generalize ((n / d : Nat) : Rat) = u at *
      generalize (n : Rat) / (d : Rat) = v at *
      have : (u - v) * p2 e = 0 := by grind
      rcases Rat.mul_eq_zero.1 this with h | h
      · grind
      · exact absurd h hp
    have h7 : (((n / d) * d : Nat) : Rat) = (n : Rat) := by
      rw [Rat.natCast_mul, h6]
      grind
    have h8 := Rat.natCast_inj.1 h7
    rw [Nat.mul_comm] at h8
    omega

/-- The rounded numbers' first factors. -/
def rlo (N D k : Nat) : Nat := scn N D (rex N D k)
def rhi (N D k : Nat) : Nat := if scr N D (rex N D k) = 0 then scn N D (rex N D k) else scn N D (rex N D k) + 1
theorem rlo_dn {N D k : Nat} (hk : 1 ≤ k) (hN : 0 < N) (hD : 0 < D) : IsDn k ((N : Rat) / (D : Rat)) (((rlo N D k : Int) : Rat) * p2 (rex N D k)) := by
  obtain ⟨h1, h2⟩ := rex_bd hk hN hD
  exact near_dn hk h1 h2 (scn_le N D hD _) (scn_lt N D hD _)
theorem rhi_up {N D k : Nat} (hk : 1 ≤ k) (hN : 0 < N) (hD : 0 < D) : IsUp k ((N : Rat) / (D : Rat)) (((rhi N D k : Int) : Rat) * p2 (rex N D k)) := by
  obtain ⟨h1, h2⟩ := rex_bd hk hN hD
  unfold rhi
  split
  · rename_i h
    exact (near_eq h2 ((scr_zero hD _).1 h)).1
  · rename_i h
    refine near_up hk h1 h2 ?_ (scn_lt N D hD _)
    have h3 := scn_le N D hD (rex N D k)
    have h4 : ¬ ((scn N D (rex N D k) : Int) : Rat) * p2 (rex N D k) = (N : Rat) / (D : Rat) := fun hh => h ((scr_zero hD _).2 hh)
    exact Rat.lt_of_le_of_ne h3 h4
theorem rhi_rlo {N D k : Nat} (hk : 1 ≤ k) (hN : 0 < N) (hD : 0 < D) : (((rhi N D k : Int) : Rat) * p2 (rex N D k) - ((rlo N D k : Int) : Rat) * p2 (rex N D k)) * ((2 ^ (k - 1) : Nat) : Rat) ≤ (N : Rat) / (D : Rat) := by
  obtain ⟨h1, h2⟩ := rex_bd hk hN hD
  have h3 := scn_le N D hD (rex N D k)
  have h4 : ((2 ^ (k - 1) : Nat) : Rat) * p2 (rex N D k) ≤ (N : Rat) / (D : Rat) := by
    refine Rat.le_trans (p2_le _ ?_) h3
    rw [Rat.intCast_natCast]
    exact Rat.natCast_le_natCast.2 h1
  have h0 : (0 : Rat) ≤ ((2 ^ (k - 1) : Nat) : Rat) * p2 (rex N D k) := Rat.mul_nonneg Rat.natCast_nonneg (Rat.le_of_lt (p2_pos _))
  unfold rhi rlo
  split
  · grind
  · rw [show (((scn N D (rex N D k) + 1 : Nat) : Int) : Rat) = ((scn N D (rex N D k) : Int) : Rat) + 1 from by simp]
    grind

end Go.Proofs.YtnddhohjfjlaiaaGreatDoor
