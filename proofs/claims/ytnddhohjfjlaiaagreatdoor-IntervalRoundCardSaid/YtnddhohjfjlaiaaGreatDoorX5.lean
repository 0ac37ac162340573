/-
  The program's interval: Scale.
-/
import Derived.Test.YtnddhohjfjlaiaaGreatDoorX3
import Derived.Test.YtnddhohjfjlaiaaGreatDoorVB
namespace Go.Proofs.YtnddhohjfjlaiaaGreatDoor
open Go.RowKit
set_option linter.unusedVariables false
set_option linter.unusedSimpArgs false

theorem sz_lt0 (z : Rat) : decide (sz z.num < 0) = decide (z < 0) := by
  rw [decide_eq_decide, sz_neg]
  constructor
  · intro h
    by_cases h0 : z < 0
    · exact h0
    · have := Rat.num_nonneg.2 (Rat.not_lt.1 h0)
      omega
  · intro h
    by_cases h0 : z.num < 0
    · exact h0
    · exact absurd h (Rat.not_lt.2 (Rat.num_nonneg.1 (by omega)))
theorem scl_pos {p q z : Rat} (hpq : p ≤ q) (hz : 0 ≤ z) : min (p * z) (q * z) = p * z ∧ max (p * z) (q * z) = q * z := by
  have h : p * z ≤ q * z := Rat.mul_le_mul_of_nonneg_right hpq hz
  rw [Rat.min_def, Rat.max_def]
  constructor <;> grind
theorem scl_neg {p q z : Rat} (hpq : p ≤ q) (hz : z < 0) : min (p * z) (q * z) = q * z ∧ max (p * z) (q * z) = p * z := by
  have h0 : p * (-z) ≤ q * (-z) := Rat.mul_le_mul_of_nonneg_right hpq (by grind)
  have h : q * z ≤ p * z := by grind
  rw [Rat.min_def, Rat.max_def]
  constructor <;> grind
end Go.Proofs.YtnddhohjfjlaiaaGreatDoor
