/-
  The walk of NaturalSub.
-/
import Derived.Test.YtefcpcekoihgjaaAddLaw
namespace Go.Proofs.Ytefcpcekoihgjaa
open Go.RowKit
set_option linter.unusedVariables false
set_option linter.unusedSimpArgs false

theorem sub_at (A B : Option Addr) (n m c d : Nat) (xs ys : List Nat) (w : World) (X Y Z : Nat) (hx : val xs = X) (hy : val ys = Y) (hz : X - Y = Z) (hle : Y ≤ X) (h : Rd w A n c xs) (h2 : Rd w B m d ys) (hn : n ≤ 1048576) (hm : m ≤ 1048576) :
    Calls Try.prog 48 #[.slice A n c, .slice B m d] w (GivesE w (dg Z) 0) := by
  subst hx hy hz
  exact sub_ge A B n m c d xs ys w h h2 hn hm hle
theorem sub_e0 (A B : Option Addr) (n m c d : Nat) (xs ys : List Nat) (w : World) (h : Rd w A n c xs) (h2 : Rd w B m d ys) (hn : n ≤ 1048576) (hm : m ≤ 1048576) (hlt : val xs < val ys) :
    Calls Try.prog 48 #[.slice A n c, .slice B m d] w fun e w' => ∃ A1 c1, e = .returned (.tuple #[.slice A1 0 c1, .int .i64 2]) ∧ Rd w' A1 0 c1 [] ∧ Below w.heap.size w w' := sub_lt A B n m c d xs ys w h h2 hn hm hlt
theorem rsub_e0 (A B : Option Addr) (n m c d : Nat) (xs ys : List Nat) (w : World) (h : Rd w A n c xs) (h2 : Rd w B m d ys) (hn : n ≤ 1048576) (hm : m ≤ 1048576) (hlt : val xs < val ys) :
    Calls Try.prog 50 #[.slice A n c, .slice B m d] w fun e w' => ∃ A1 c1, e = .returned (.tuple #[.slice A1 0 c1, .int .i64 2]) ∧ Rd w' A1 0 c1 [] ∧ Below w.heap.size w w' := rsub_lt A B n m c d xs ys w h h2 hn hm hlt
end Go.Proofs.Ytefcpcekoihgjaa
