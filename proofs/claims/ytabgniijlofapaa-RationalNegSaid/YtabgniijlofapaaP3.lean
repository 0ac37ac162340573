/-
  The program's rational functions: the contracts together.
-/
import Derived.Test.YtabgniijlofapaaQ4
import Derived.Test.YtabgniijlofapaaQ5
import Derived.Test.YtabgniijlofapaaQ11
namespace Go.Proofs.Ytabgniijlofapaa
open Go.RowKit
set_option linter.unusedVariables false
set_option linter.unusedSimpArgs false

theorem rmin_at (s t : Bool) (A B A' B' : Option Addr) (n c m d n' c' m' d' : Nat) (p q x : Rat) (w : World) (hv : (if p ≤ q then p else q) = x) (h : Iq w s A n c B m d p) (k : Iq w t A' n' c' B' m' d' q) (hn : n ≤ 4000) (hm : m ≤ 4000) (hn' : n' ≤ 4000) (hm' : m' ≤ 4000) :
    Calls Try.prog 42 #[.agg #[.bool s, .slice A n c, .slice B m d], .agg #[.bool t, .slice A' n' c', .slice B' m' d']] w (GQ w x) := by
  rw [← hv]
  exact rmin_q s t A B A' B' n c m d n' c' m' d' p q w h k hn hm hn' hm'
theorem rmax_at (s t : Bool) (A B A' B' : Option Addr) (n c m d n' c' m' d' : Nat) (p q x : Rat) (w : World) (hv : (if q ≤ p then p else q) = x) (h : Iq w s A n c B m d p) (k : Iq w t A' n' c' B' m' d' q) (hn : n ≤ 4000) (hm : m ≤ 4000) (hn' : n' ≤ 4000) (hm' : m' ≤ 4000) :
    Calls Try.prog 44 #[.agg #[.bool s, .slice A n c, .slice B m d], .agg #[.bool t, .slice A' n' c', .slice B' m' d']] w (GQ w x) := by
  rw [← hv]
  exact rmax_q s t A B A' B' n c m d n' c' m' d' p q w h k hn hm hn' hm'
end Go.Proofs.Ytabgniijlofapaa
