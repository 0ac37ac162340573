/-
  The walk of RationalCompare: its cases together.
-/
import Derived.Test.YtabgniijlofapaaCQ1
import Derived.Test.YtabgniijlofapaaCQ2
import Derived.Test.YtabgniijlofapaaCQ3
import Derived.Test.YtabgniijlofapaaCQ4
import Derived.Test.YtabgniijlofapaaCQ5
namespace Go.Proofs.Ytabgniijlofapaa
open Go.RowKit
set_option linter.unusedVariables false
set_option linter.unusedSimpArgs false

theorem lcmp (s s' s'' : Bool) (A A' A'' : Option Addr) (n c n' c' n'' c'' : Nat) (B B' B'' : Option Addr) (m d m' d' m'' d'' : Nat) (x y z : Rat) (w : World) (ha : Iq w s A n c B m d x) (hb : Iq w s' A' n' c' B' m' d' y) (hc : Iq w s'' A'' n'' c'' B'' m'' d'' z) (hn : (n ≤ 3 ∧ m ≤ 3) ∧ (n' ≤ 3 ∧ m' ≤ 3) ∧ (n'' ≤ 3 ∧ m'' ≤ 3)) :
    Calls Try.prog 7 #[.agg #[.bool s, .slice A n c, .slice B m d], .agg #[.bool s', .slice A' n' c', .slice B' m' d'], .agg #[.bool s'', .slice A'' n'' c'', .slice B'' m'' d'']] w fun e w' => e = .returned (.bool true) ∧ Below w.heap.size w w' := by
  have ht : sz z.num = -1 ∨ sz z.num = 0 ∨ sz z.num = 1 := by unfold sz; (repeat' split) <;> simp
  have hr : sz (x - y).num = -1 ∨ sz (x - y).num = 0 ∨ sz (x - y).num = 1 := by unfold sz; (repeat' split) <;> simp
  by_cases hp : sz (y - z).num ≤ 0
  · rcases hr with hr | hr | hr
    · exact lcmp_lt1 s s' s'' A A' A'' n c n' c' n'' c'' B B' B'' m d m' d' m'' d'' x y z w ha hb hc hn _ rfl ht hr hp
    · exact lcmp_eq1 s s' s'' A A' A'' n c n' c' n'' c'' B B' B'' m d m' d' m'' d'' x y z w ha hb hc hn _ rfl ht hr hp
    · exact lcmp_gt s s' s'' A A' A'' n c n' c' n'' c'' B B' B'' m d m' d' m'' d'' x y z w ha hb hc hn _ rfl ht hr
  · rcases hr with hr | hr | hr
    · exact lcmp_lt2 s s' s'' A A' A'' n c n' c' n'' c'' B B' B'' m d m' d' m'' d'' x y z w ha hb hc hn _ rfl ht hr hp
    · exact lcmp_eq2 s s' s'' A A' A'' n c n' c' n'' c'' B B' B'' m d m' d' m'' d'' x y z w ha hb hc hn _ rfl ht hr hp
    · exact lcmp_gt s s' s'' A A' A'' n c n' c' n'' c'' B B' B'' m d m' d' m'' d'' x y z w ha hb hc hn _ rfl ht hr
end Go.Proofs.Ytabgniijlofapaa
