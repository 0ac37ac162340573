/-
  Comparison and sum.
-/
import Derived.Test.YtnddhohjfjlaiaaGreatDoorEf
namespace Go.Proofs.YtnddhohjfjlaiaaGreatDoor
open Go.RowKit
set_option linter.unusedVariables false
set_option linter.unusedSimpArgs false

theorem Cz.storI {w : World} {s : Bool} {A : Option Addr} {n c : Nat} {z : Int} (h : Cz w s A n c z) {g : Nat} {s0 : Bool} {B : Option Addr} {l d : Nat} (hs : Sb w g (.bool s0) (.slice B l d)) (u0 u1 : Value) : Cz ((w.setCell ⟨g, 0, none⟩ u0).setCell ⟨g, 1, none⟩ u1) s A n c z := ⟨h.1.storI hs u0 u1, h.2⟩
theorem sz_p2 (n e : Int) : sz ((n : Rat) * p2 e).num = sz n := by
  unfold sz
  rcases Int.lt_trichotomy n 0 with h | h | h
  · have h1 : (n : Rat) * p2 e < 0 := by
      have := p2_lt e (show (n : Rat) < 0 by exact Rat.intCast_lt_intCast.2 h)
      simpa using this
    have h2 : ((n : Rat) * p2 e).num < 0 := by
      have := mt Rat.num_nonneg.1 (Rat.not_le.2 h1)
      omega
    rw [if_neg (by omega), if_pos h2, if_neg (by omega), if_pos h]
  · subst h
    have h1 : ((0 : Int) : Rat) * p2 e = 0 := by simp
    rw [h1]
    rfl
  · have h1 : 0 < (n : Rat) * p2 e := by
      have := p2_lt e (show (0 : Rat) < (n : Rat) by exact Rat.intCast_lt_intCast.2 h)
      simpa using this
    have h2 := Rat.num_nonneg.2 (Rat.le_of_lt h1)
    have h3 : ((n : Rat) * p2 e).num ≠ 0 := fun h3 => by
      rw [Rat.num_eq_zero.1 h3] at h1
      exact absurd h1 (by decide)
    rw [if_neg h3, if_neg (by omega), if_neg (by omega), if_neg (by omega)]
theorem mult_val (s : Bool) (m K : Nat) (e z : Int) (hz : e - z = (K : Int)) : dvl s m e = ((iv s (dg (m * 2 ^ K)) : Int) : Rat) * p2 z := by
  obtain rfl : e = (K : Int) + z := by omega
  unfold dvl iv
  rw [val_dg, p2_add, p2_nat', ← Rat.mul_assoc, ← Rat.intCast_mul]
  congr 2
  cases s <;> simp [Int.natCast_mul, Int.neg_mul]
theorem mult_sub {p q : Rat} {P Q z : Int} (hp : p = (P : Rat) * p2 z) (hq : q = (Q : Rat) * p2 z) : p - q = ((P - Q : Int) : Rat) * p2 z := by
  rw [hp, hq, Rat.intCast_sub]
  grind
theorem mult_add {p q : Rat} {P Q z : Int} (hp : p = (P : Rat) * p2 z) (hq : q = (Q : Rat) * p2 z) : p + q = ((P + Q : Int) : Rat) * p2 z := by
  rw [hp, hq, Rat.intCast_add, Rat.add_mul]
theorem dvl_int (Z z : Int) : dvl (decide (Z < 0)) Z.natAbs z = (Z : Rat) * p2 z := by
  unfold dvl
  congr 2
  by_cases h : Z < 0
  · rw [decide_eq_true h, if_pos rfl]; omega
  · rw [decide_eq_false h, if_neg (by decide)]; omega
theorem Cy.val {w : World} {s : Bool} {A : Option Addr} {n c : Nat} {e : Int} {q : Rat} (h : Cy w s A n c e q) : dvl s (dm q) e = q := by
  rw [h.2.1, h.2.2.1, dvl_of h.2.2.2]
theorem Cy.ny {w : World} {s : Bool} {A : Option Addr} {n c k : Nat} {e : Int} {q : Rat} (h : Cy w s A n c e q) (hn : n ≤ k) : Ny w A n c k (dm q) := ⟨hn, h.1⟩
theorem mult_lt {X K : Nat} (hX : X < pw 3) (hK : K ≤ 400) : X * 2 ^ K < pw 16 := by
  have h : 2 ^ K < pw 13 := two_lt_pw (by omega)
  exact mul_pw hX h
end Go.Proofs.YtnddhohjfjlaiaaGreatDoor
