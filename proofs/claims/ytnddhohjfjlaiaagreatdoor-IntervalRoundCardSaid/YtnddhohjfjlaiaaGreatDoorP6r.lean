/-
  What Round of package interval answers, by its own text, in the form that the walk of the statement asks for.
-/
import Derived.Test.YtnddhohjfjlaiaaGreatDoorP6
import Derived.Test.YtnddhohjfjlaiaaGreatDoorX7
namespace Go.Proofs.YtnddhohjfjlaiaaGreatDoor
open Go.RowKit
set_option linter.unusedVariables false
set_option linter.unusedSimpArgs false

theorem iround_iv (a c : Rv) (p q : Rat) (P : Int) (k : Nat) (w : World) (hP : P = (k : Int)) (hk : 1 ≤ k ∧ k ≤ 200) (ha : Cu w a p) (hc : Cu w c q) (hpq : p ≤ q) (sp : Qs 3 p) (sq : Qs 3 q) (T : Tb w) :
    Calls Tryz.prog 6 #[.agg #[.bool a.s, .slice a.A a.n a.c, .slice a.B a.m a.d, .bool c.s, .slice c.A c.n c.c, .slice c.B c.m c.d], .int .i64 P] w (GVE w (tq p k false) (tq q k true) 0) :=
  pround_iv a c p q P w ha.iu hc.iu sp sq (ha.len sp) (hc.len sq) k hP hk T
theorem iround_no (a c : Rv) (p q : Rat) (P : Int) (w : World) (hP : P < 1 ∨ 4096 < P) (ha : Cu w a p) (hc : Cu w c q) (hpq : p ≤ q) (sp : Qs 3 p) (sq : Qs 3 q) :
    Calls Tryz.prog 6 #[.agg #[.bool a.s, .slice a.A a.n a.c, .slice a.B a.m a.d, .bool c.s, .slice c.A c.n c.c, .slice c.B c.m c.d], .int .i64 P] w (GVE w 0 0 1) :=
  pround_no a c p q P w ha.iu hc.iu sp sq (ha.len sp) (hc.len sq) hP
end Go.Proofs.YtnddhohjfjlaiaaGreatDoor
