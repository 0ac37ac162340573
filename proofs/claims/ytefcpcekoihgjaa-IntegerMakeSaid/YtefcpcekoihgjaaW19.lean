/-
  smallGcd, and Gcd of numbers below 2 to the 64.
-/
import Derived.Test.YtefcpcekoihgjaaW18
namespace Go.Proofs.Ytefcpcekoihgjaa
open Go.RowKit
set_option linter.unusedVariables false
set_option linter.unusedSimpArgs false

def SgRel (G : Nat) (x y : Value) : Prop := ∃ a b : Nat, x = .int .u64 a ∧ y = .int .u64 b ∧ a ≤ 18446744073709551615 ∧ b ≤ 18446744073709551615 ∧ Nat.gcd a b = G
/-- The greatest common divisor of numbers of at most two limbs. -/
theorem gcd_step {a b : Nat} : Nat.gcd b (a % b) = Nat.gcd a b := by rw [Nat.gcd_comm b (a % b), ← Nat.gcd_rec, Nat.gcd_comm]
theorem make_at (A : Option Addr) (n c : Nat) (xs : List Nat) (w : World) (X L : Nat) (hX : val xs = X) (hL : (dg X).length = L) (h : Rd w A n c xs) (hn : n ≤ 1048576) :
    Calls Try.prog 36 #[.slice A n c] w fun e w' => ∃ A1 c1, e = .returned (.slice A1 L c1) ∧ Rd w' A1 L c1 (dg X) ∧ Below w.heap.size w w' := by
  subst hX hL
  exact make_calls A n c xs w h hn
section
variable (A B : Option Addr) (n m c d : Nat) (xs ys : List Nat) (w : World) (X Y : Nat) (h : Rd w A n c xs) (h2 : Rd w B m d ys) (hn : n ≤ 65536) (hm : m ≤ 65536) (hX : val xs = X) (hY : val ys = Y)
include h h2 hn hm hX hY
end
end Go.Proofs.Ytefcpcekoihgjaa
