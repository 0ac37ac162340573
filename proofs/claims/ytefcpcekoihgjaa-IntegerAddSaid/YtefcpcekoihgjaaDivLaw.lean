/-
  The walk of NaturalDivide.
-/
import Derived.Test.YtefcpcekoihgjaaMulLaw
import Derived.Test.YtefcpcekoihgjaaW18
namespace Go.Proofs.Ytefcpcekoihgjaa
open Go.RowKit
set_option linter.unusedVariables false
set_option linter.unusedSimpArgs false

theorem divmod_at (A B : Option Addr) (n m c d : Nat) (xs ys : List Nat) (w : World) (X Y Q R : Nat) (hx : val xs = X) (hy : val ys = Y) (hq : X / Y = Q) (hr : X % Y = R) (h0 : 0 < Y) (h : Rd w A n c xs) (h2 : Rd w B m d ys) (hn : n ≤ 65536) (hm : m ≤ 65536) :
    Calls Try.prog 54 #[.slice A n c, .slice B m d] w (Gives3 w (dg Q) (dg R) 0) := by
  subst hx hy hq hr
  exact divmod_calls A B n m c d xs ys w h h2 hn hm h0
theorem dm0_at (A B : Option Addr) (n m c d : Nat) (xs ys : List Nat) (w : World) (h0 : val ys = 0) (h : Rd w A n c xs) (h2 : Rd w B m d ys) (hn : n ≤ 65536) (hm : m ≤ 65536) :
    Calls Try.prog 54 #[.slice A n c, .slice B m d] w fun e w' => ∃ A1 c1 B1 d1, e = .returned (.tuple #[.slice A1 0 c1, .slice B1 0 d1, .int .i64 3]) ∧ Rd w' A1 0 c1 [] ∧ Rd w' B1 0 d1 [] ∧ Below w.heap.size w w' :=
  dm_zero A B n m c d xs ys w h h2 hn hm h0
theorem rmake_len (A : Option Addr) (n c : Nat) (xs : List Nat) (w : World) (L : Nat) (hL : (dg (val xs)).length = L) (h : Rd w A n c xs) (hn : n ≤ 4194304) :
    Calls Try.prog 38 #[.slice A n c] w fun e w' => ∃ A1 c1, e = .returned (.slice A1 L c1) ∧ Rd w' A1 L c1 (dg (val xs)) ∧ Below w.heap.size w w' := by
  subst hL
  exact rmake_calls A n c xs w h hn
theorem rcmp_at (A B : Option Addr) (n m c d : Nat) (xs ys : List Nat) (w : World) (r : Int) (hr : sg (val xs) (val ys) = r) (h : Rd w A n c xs) (h2 : Rd w B m d ys) (hn : n ≤ 1048576) (hm : m ≤ 1048576) :
    Calls Try.prog 33 #[.slice A n c, .slice B m d] w fun e w' => e = .returned (.int .i64 r) ∧ w = w' := rcmp_calls A B n m c d xs ys w r h h2 hn hm hr
end Go.Proofs.Ytefcpcekoihgjaa
