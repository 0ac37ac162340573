/-
  The walk of IntegerCompare: its cases together.
-/
import Derived.Test.YtefcpcekoihgjaaC1
import Derived.Test.YtefcpcekoihgjaaC2
import Derived.Test.YtefcpcekoihgjaaC3
import Derived.Test.YtefcpcekoihgjaaC4
import Derived.Test.YtefcpcekoihgjaaC5
namespace Go.Proofs.Ytefcpcekoihgjaa
open Go.RowKit
set_option linter.unusedVariables false
set_option linter.unusedSimpArgs false

theorem law_cmp (sa sb sc : Bool) (Aa Ab Ac : Option Addr) (na nb_ nc ca cb cc : Nat) (x y z : Int) (w : World) (ha : Iz w sa Aa na ca x) (hb : Iz w sb Ab nb_ cb y) (hc : Iz w sc Ac nc cc z) (hn : na ≤ 8 ∧ nb_ ≤ 8 ∧ nc ≤ 8) :
    Calls Try.prog 7 #[.agg #[.bool sa, .slice Aa na ca], .agg #[.bool sb, .slice Ab nb_ cb], .agg #[.bool sc, .slice Ac nc cc]] w fun e w' => e = .returned (.bool true) ∧ Below w.heap.size w w' := by
  have ht := sz_cases z
  by_cases hp : sz (y - z) ≤ 0
  · rcases sz_cases (x - y) with hr | hr | hr
    · exact law_cmp_lt1 sa sb sc Aa Ab Ac na nb_ nc ca cb cc x y z w ha hb hc hn _ rfl ht hr hp
    · exact law_cmp_eq1 sa sb sc Aa Ab Ac na nb_ nc ca cb cc x y z w ha hb hc hn _ rfl ht hr hp
    · exact law_cmp_gt sa sb sc Aa Ab Ac na nb_ nc ca cb cc x y z w ha hb hc hn _ rfl ht hr
  · rcases sz_cases (x - y) with hr | hr | hr
    · exact law_cmp_lt2 sa sb sc Aa Ab Ac na nb_ nc ca cb cc x y z w ha hb hc hn _ rfl ht hr hp
    · exact law_cmp_eq2 sa sb sc Aa Ab Ac na nb_ nc ca cb cc x y z w ha hb hc hn _ rfl ht hr hp
    · exact law_cmp_gt sa sb sc Aa Ab Ac na nb_ nc ca cb cc x y z w ha hb hc hn _ rfl ht hr
end Go.Proofs.Ytefcpcekoihgjaa
