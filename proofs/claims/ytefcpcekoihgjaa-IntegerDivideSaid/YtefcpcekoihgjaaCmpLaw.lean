/-
  The walk of NaturalCompare.
-/
import Derived.Test.YtefcpcekoihgjaaAddLaw
namespace Go.Proofs.Ytefcpcekoihgjaa
open Go.RowKit
set_option linter.unusedVariables false
set_option linter.unusedSimpArgs false

theorem sg_neg (a b : Nat) : sg b a = - sg a b := by
  rcases Nat.lt_trichotomy a b with h | h | h
  · rw [sg_lt h, sg_gt h]; rfl
  · rw [sg_eq h, sg_eq h.symm]; rfl
  · rw [sg_gt h, sg_lt h]
theorem sg_bound (a b : Nat) : -1 ≤ sg a b ∧ sg a b ≤ 1 := by unfold sg; split <;> (try split) <;> omega
theorem sg_le {a b : Nat} : sg a b ≤ 0 ↔ a ≤ b := by unfold sg; split <;> (try split) <;> omega
theorem sg_add (a b c : Nat) : sg (a + c) (b + c) = sg a b := by
  unfold sg
  split <;> split <;> (try split) <;> (try split) <;> omega
theorem rcmp_b (A B : Option Addr) (n m c d : Nat) (xs ys : List Nat) (w : World) (r : Int) (h : Rd w A n c xs) (h2 : Rd w B m d ys) (hn : n ≤ 1048576) (hm : m ≤ 1048576) (hr : sg (val xs) (val ys) = r) :
    Calls Try.prog 33 #[.slice A n c, .slice B m d] w fun e w' => e = .returned (.int .i64 r) ∧ w = w' := rcmp_calls A B n m c d xs ys w r h h2 hn hm hr
end Go.Proofs.Ytefcpcekoihgjaa
