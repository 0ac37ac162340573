/-
  The walk of NaturalAdd.
-/
import Derived.Test.YtefcpcekoihgjaaLaw
import Derived.Test.YtefcpcekoihgjaaW21
namespace Go.Proofs.Ytefcpcekoihgjaa
open Go.RowKit
set_option linter.unusedVariables false
set_option linter.unusedSimpArgs false

theorem val_of {xs : List Nat} {X : Nat} (h : val xs = X) : val xs = X := h
theorem add_at (A B : Option Addr) (n m c d : Nat) (xs ys : List Nat) (w : World) (X Y Z : Nat) (hx : val xs = X) (hy : val ys = Y) (hz : X + Y = Z) (h : Rd w A n c xs) (h2 : Rd w B m d ys) (hn : n ≤ 1048576) (hm : m ≤ 1048576) :
    Calls Try.prog 46 #[.slice A n c, .slice B m d] w (Gives w (dg Z)) := by
  subst hx hy hz
  exact add_calls A B n m c d xs ys w h h2 hn hm
theorem radd_at (A B : Option Addr) (n m c d : Nat) (xs ys : List Nat) (w : World) (X Y Z : Nat) (hx : val xs = X) (hy : val ys = Y) (hz : X + Y = Z) (h : Rd w A n c xs) (h2 : Rd w B m d ys) (hn : n ≤ 1048576) (hm : m ≤ 1048576) :
    Calls Try.prog 49 #[.slice A n c, .slice B m d] w (Gives w (dg Z)) := by
  subst hx hy hz
  exact radd_calls A B n m c d xs ys w h h2 hn hm
theorem dg_le {n k : Nat} (h : n < pw k) : (dg n).length ≤ k := len_dg_le h
theorem add_pw {x y k : Nat} (hx : x < pw k) (hy : y < pw k) : x + y < pw (k + 1) := by
  have := pw_pos k
  rw [pw]
  omega
theorem rd_lt {w : World} {A : Option Addr} {n c k : Nat} {xs : List Nat} (h : Rd w A n c xs) (hn : n ≤ k) : val xs < pw k := by
  have := val_lt h.sm
  rw [h.len] at this
  exact Nat.lt_of_lt_of_le this (pw_mono hn)
end Go.Proofs.Ytefcpcekoihgjaa
