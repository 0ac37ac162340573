/-
  The walk of NaturalMul.
-/
import Derived.Test.YtefcpcekoihgjaaAddLaw
import Derived.Test.YtefcpcekoihgjaaW22
namespace Go.Proofs.Ytefcpcekoihgjaa
open Go.RowKit
set_option linter.unusedVariables false
set_option linter.unusedSimpArgs false

theorem mul_at (A B : Option Addr) (n m c d : Nat) (xs ys : List Nat) (w : World) (X Y Z : Nat) (hx : val xs = X) (hy : val ys = Y) (hz : X * Y = Z) (h : Rd w A n c xs) (h2 : Rd w B m d ys) (hn : n ≤ 1048576) (hm : m ≤ 1048576) :
    Calls Try.prog 51 #[.slice A n c, .slice B m d] w (Gives w (dg Z)) := by
  subst hx hy hz
  exact mul_calls A B n m c d xs ys w h h2 hn hm
theorem rmul_at (A B : Option Addr) (n m c d : Nat) (xs ys : List Nat) (w : World) (X Y Z : Nat) (hx : val xs = X) (hy : val ys = Y) (hz : X * Y = Z) (h : Rd w A n c xs) (h2 : Rd w B m d ys) (hn : n ≤ 1048576) (hm : m ≤ 1048576) :
    Calls Try.prog 52 #[.slice A n c, .slice B m d] w (Gives w (dg Z)) := by
  subst hx hy hz
  exact rmul_calls A B n m c d xs ys w h h2 hn hm
theorem mul_pw {x y j k : Nat} (hx : x < pw j) (hy : y < pw k) : x * y < pw (j + k) := by
  rw [pw_add]
  rcases Nat.eq_zero_or_pos y with h | h
  · rw [h, Nat.mul_zero]; exact Nat.mul_pos (pw_pos j) (pw_pos k)
  · exact Nat.lt_of_lt_of_le (Nat.mul_lt_mul_of_pos_right hx h) (Nat.mul_le_mul_left _ (Nat.le_of_lt hy))
end Go.Proofs.Ytefcpcekoihgjaa
