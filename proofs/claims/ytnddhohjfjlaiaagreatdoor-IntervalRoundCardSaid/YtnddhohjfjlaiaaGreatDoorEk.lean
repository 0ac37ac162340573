/-
  What package dyadic rounds to: mathematics.
-/
import Derived.Test.YtnddhohjfjlaiaaGreatDoorKC
namespace Go.Proofs.YtnddhohjfjlaiaaGreatDoor
open Go.RowKit
set_option linter.unusedVariables false
set_option linter.unusedSimpArgs false

theorem cmp_frac {N D : Nat} (hD : 0 < D) (z : Int) : N * 2 ^ (-z).toNat < D * 2 ^ z.toNat ↔ (N : Rat) / (D : Rat) < p2 z := by
  rw [Rat.div_lt_iff (nat_pos_rat hD)]
  rcases Int.le_total 0 z with h | h
  · obtain ⟨k, rfl⟩ : ∃ k : Nat, z = (k : Int) := ⟨z.toNat, by omega⟩
    rw [show (-(k : Int)).toNat = 0 by omega, Int.toNat_natCast, p2_nat, ← Rat.natCast_mul, Rat.natCast_lt_natCast, Nat.pow_zero, Nat.mul_one, Nat.mul_comm]
  · obtain ⟨k, rfl⟩ : ∃ k : Nat, z = -(k : Int) := ⟨(-z).toNat, by omega⟩
    rw [show (-(k : Int)).toNat = 0 by omega, Int.neg_neg, Int.toNat_natCast, Nat.pow_zero, Nat.mul_one]
    have e : (N : Rat) < p2 (-(k : Int)) * (D : Rat) ↔ (N : Rat) * p2 (k : Int) < (D : Rat) := by
      have h1 := p2_inv (k : Int)
      have h2 := p2_pos (k : Int)
      constructor
      · intro h3
        have h4 := Rat.mul_lt_mul_of_pos_right h3 h2
        have h5 : p2 (-(k : Int)) * (D : Rat) * p2 (k : Int) = (D : Rat) := by grind
        rwa [h5] at h4
      · intro h3
        have h4 := Rat.mul_lt_mul_of_pos_right h3 (p2_pos (-(k : Int)))
        have h5 : (N : Rat) * p2 (k : Int) * p2 (-(k : Int)) = (N : Rat) := by grind
        rw [h5, Rat.mul_comm] at h4
        exact h4
    rw [e, p2_nat, ← Rat.natCast_mul, Rat.natCast_lt_natCast]
/-- The greatest exponent of a power of 2 that is at most the quotient. -/
def top (N D : Nat) : Int := if N * 2 ^ (-((bl N : Int) - bl D)).toNat < D * 2 ^ ((bl N : Int) - bl D).toNat then (bl N : Int) - bl D - 1 else (bl N : Int) - bl D
theorem top_bd {N D : Nat} (hN : 0 < N) (hD : 0 < D) : p2 (top N D) ≤ (N : Rat) / (D : Rat) ∧ (N : Rat) / (D : Rat) < p2 (top N D + 1) := by
  unfold top
  have h := cmp_frac (N := N) hD ((bl N : Int) - bl D)
  split
  · rename_i h1
    refine ⟨Rat.le_of_lt ?_, ?_⟩
    · have := frac_lo hN hD
      rwa [show (bl N : Int) - 1 - bl D = (bl N : Int) - bl D - 1 by omega] at this
    · rw [show (bl N : Int) - bl D - 1 + 1 = (bl N : Int) - bl D by omega]
      exact h.1 h1
  · rename_i h1
    exact ⟨Rat.not_lt.1 (fun h2 => h1 (h.2 h2)), frac_hi hN hD⟩
theorem top_size {N D K : Nat} (hN : N < pw K) (hD : D < pw K) : -(32 * K + 1 : Int) ≤ top N D ∧ top N D ≤ 32 * K := by
  have h1 := bl_pw hN
  have h2 := bl_pw hD
  unfold top
  split <;> omega
theorem scn_top {N D k : Nat} (hk : 1 ≤ k) (hN : 0 < N) (hD : 0 < D) {e : Int} (he : e = top N D + 1 - k) : 2 ^ (k - 1) ≤ scn N D e ∧ scn N D e < 2 ^ k := by
  obtain ⟨h1, h2⟩ := top_bd hN hD
  have h3 := scn_le N D hD e
  have h4 := scn_lt N D hD e
  have e1 : p2 (top N D) = (((2 ^ (k - 1) : Nat) : Int) : Rat) * p2 e := by rw [← p2_nat', ← p2_add]; congr 1; omega
  have e2 : p2 (top N D + 1) = (((2 ^ k : Nat) : Int) : Rat) * p2 e := by rw [← p2_nat', ← p2_add]; congr 1; omega
  rw [e1] at h1
  rw [e2] at h2
  constructor
  · have h5 : (((2 ^ (k - 1) : Nat) : Int) : Rat) * p2 e < ((((scn N D e : Nat) : Int) + 1 : Int) : Rat) * p2 e := by grind
    have := int_lt.1 (lt_p2 (c := 0) h5)
    omega
  · have h5 : (((scn N D e : Nat) : Int) : Rat) * p2 e < (((2 ^ k : Nat) : Int) : Rat) * p2 e := by grind
    have := int_lt.1 (lt_p2 (c := 0) h5)
    omega
theorem scn_eq (N D : Nat) (e : Int) : N * 2 ^ (-e).toNat / (D * 2 ^ e.toNat) = scn N D e ∧ N * 2 ^ (-e).toNat % (D * 2 ^ e.toNat) = scr N D e := by
  unfold scn scr
  rcases Int.lt_or_le 0 e with h | h
  · rw [if_pos h, if_pos h, show (-e).toNat = 0 by omega, Nat.pow_zero, Nat.mul_one]
    exact ⟨rfl, rfl⟩
  · rw [if_neg (by omega), if_neg (by omega), show e.toNat = 0 by omega, Nat.pow_zero, Nat.mul_one]
    exact ⟨rfl, rfl⟩
/-- The factor: rounded away from 0 or towards it. -/
def rmag (N D : Nat) (e : Int) (away : Bool) : Nat := if away = true ∧ scr N D e ≠ 0 then scn N D e + 1 else scn N D e
theorem rmag_bd {N D k : Nat} (hk : 1 ≤ k) (hN : 0 < N) (hD : 0 < D) {e : Int} (he : e = top N D + 1 - k) (away : Bool) : rmag N D e away ≠ 0 ∧ rmag N D e away ≤ 2 ^ k := by
  obtain ⟨h1, h2⟩ := scn_top hk hN hD he
  have := Nat.two_pow_pos (k - 1)
  unfold rmag
  split <;> omega
theorem rmag_false {N D k : Nat} (hk : 1 ≤ k) (hN : 0 < N) (hD : 0 < D) {e : Int} (he : e = top N D + 1 - k) : IsDn k ((N : Rat) / (D : Rat)) (((rmag N D e false : Int) : Rat) * p2 e) := by
  obtain ⟨h1, h2⟩ := scn_top hk hN hD he
  have h3 : rmag N D e false = scn N D e := by unfold rmag; rw [if_neg (by simp)]
  rw [h3]
  exact near_dn hk h1 h2 (scn_le N D hD e) (scn_lt N D hD e)
theorem rmag_true {N D k : Nat} (hk : 1 ≤ k) (hN : 0 < N) (hD : 0 < D) {e : Int} (he : e = top N D + 1 - k) : IsUp k ((N : Rat) / (D : Rat)) (((rmag N D e true : Int) : Rat) * p2 e) := by
  obtain ⟨h1, h2⟩ := scn_top hk hN hD he
  have hz := scr_zero (N := N) hD e
  unfold rmag
  by_cases h0 : scr N D e = 0
  · rw [if_neg (by simp [h0])]
    exact (near_eq h2 (hz.1 h0)).1
  · rw [if_pos ⟨rfl, h0⟩]
    exact near_up hk h1 h2 (Rat.lt_of_le_of_ne (scn_le N D hD e) (fun h => h0 (hz.2 h))) (scn_lt N D hD e)
theorem mk_frac {s : Bool} {N D : Nat} {q : Rat} (hq : mkRat (if s = true then -(N : Int) else (N : Int)) D = q) : q = if s = true then -((N : Rat) / (D : Rat)) else (N : Rat) / (D : Rat) := by
  rw [← hq, Rat.mkRat_eq_div]
  cases s
  · simp [Rat.intCast_natCast]
  · simp [Rat.intCast_neg, Rat.div_def, Rat.neg_mul, Rat.intCast_natCast]
/-- What package dyadic rounds to is the rounded number. -/
theorem rnd_val {s : Bool} {N D k : Nat} {q : Rat} (up : Bool) (hk : 1 ≤ k) (hN : 0 < N) (hD : 0 < D) (hq : mkRat (if s = true then -(N : Int) else (N : Int)) D = q) {e : Int} (he : e = top N D + 1 - k) {away : Bool} (ha : (!up == s) = away) :
    dvl s (rmag N D e away) e = tq q k up := by
  have h := mk_frac hq
  subst ha
  cases s <;> cases up
  · rw [dvl_f]
    exact (rmag_false hk hN hD he).uniq (by rw [show (N : Rat) / (D : Rat) = q from h.symm]; exact tq_dn q hk)
  · rw [dvl_f]
    exact (rmag_true hk hN hD he).uniq (by rw [show (N : Rat) / (D : Rat) = q from h.symm]; exact tq_up q hk)
  · rw [dvl_t]
    have h2 := (rmag_true hk hN hD he).neg
    rw [show -((N : Rat) / (D : Rat)) = q from h.symm] at h2
    exact h2.uniq (tq_dn q hk)
  · rw [dvl_t]
    have h2 := (rmag_false hk hN hD he).neg
    rw [show -((N : Rat) / (D : Rat)) = q from h.symm] at h2
    exact h2.uniq (tq_up q hk)
end Go.Proofs.YtnddhohjfjlaiaaGreatDoor
