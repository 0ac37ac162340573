/-
  The specification's Text.
-/
import Derived.Test.YtjpchbcenbjibaaGreatDoorD2
namespace Go.Proofs.YtjpchbcenbjibaaGreatDoor
open Go.RowKit
set_option linter.unusedVariables false
set_option linter.unusedSimpArgs false

theorem pw_ten (k : Nat) : pw k ≤ 10 ^ (10 * k) := by
  induction k with
  | zero => decide
  | succ k ih =>
    have e : pw (k + 1) = 4294967296 * pw k := rfl
    rw [e, show 10 * (k + 1) = 10 * k + 10 by omega, Nat.pow_add, show (10 : Nat) ^ 10 = 10000000000 by decide]
    omega
theorem dtx_pw {X k : Nat} (h : X < pw k) (hk : 1 ≤ k) : (dtx X).length ≤ 10 * k := dtx_len (Nat.lt_of_lt_of_le h (pw_ten k)) (by omega)
theorem dt_pw {X k : Nat} (h : X < pw k) : (dt X).length ≤ 10 * k := dt_len (Nat.lt_of_lt_of_le h (pw_ten k))
theorem txt_int {q : Rat} {X : Nat} {s : Bool} (hX : q.num.natAbs = X) (hs : s = decide (q.num < 0)) (h1 : q.den = 1) : txt q = (if s then [45] else []) ++ dtx X := by
  subst hX hs
  unfold txt
  rw [if_pos h1, List.append_nil]
  by_cases h0 : q.num < 0 <;> simp [h0]
theorem txt_frac {q : Rat} {X Y : Nat} {s : Bool} (hX : q.num.natAbs = X) (hs : s = decide (q.num < 0)) (hY : q.den = Y) (h1 : Y ≠ 1) : txt q = (if s then [45] else []) ++ (dtx X ++ 47 :: dtx Y) := by
  subst hX hs hY
  unfold txt
  rw [if_neg h1]
  by_cases h0 : q.num < 0 <;> simp [h0]
end Go.Proofs.YtjpchbcenbjibaaGreatDoor
