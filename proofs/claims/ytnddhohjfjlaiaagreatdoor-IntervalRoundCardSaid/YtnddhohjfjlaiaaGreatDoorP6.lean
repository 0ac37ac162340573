/-
  What package interval answers, by its own text, in the form that the walks of the statements ask for.
-/
import Derived.Test.YtnddhohjfjlaiaaGreatDoorX2
import Derived.Test.YtnddhohjfjlaiaaGreatDoorX3
import Derived.Test.YtnddhohjfjlaiaaGreatDoorX5
import Derived.Test.YtnddhohjfjlaiaaGreatDoorX6
import Derived.Test.YtnddhohjfjlaiaaGreatDoorX8
namespace Go.Proofs.YtnddhohjfjlaiaaGreatDoor
open Go.RowKit
set_option linter.unusedVariables false
set_option linter.unusedSimpArgs false

theorem icont_iv (a c x : Rv) (p q z : Rat) (r : Bool) (w : World) (hr : (decide (p ≤ z) && decide (z ≤ q)) = r) (ha : Cu w a p) (hc : Cu w c q) (hx : Iu w x z) (lx : Lu 100 x) (hpq : p ≤ q) (sp : Qs 100 p) (sq : Qs 100 q) (sz_ : Qs 100 z) :
    Calls Tryz.prog 14 #[.agg #[.bool a.s, .slice a.A a.n a.c, .slice a.B a.m a.d, .bool c.s, .slice c.A c.n c.c, .slice c.B c.m c.d], .agg #[.bool x.s, .slice x.A x.n x.c, .slice x.B x.m x.d]] w (Asks w (.bool r)) :=
  pcont_iv a c x p q z r w hr ha.iu hc.iu hx ((ha.len sp).mono (show 100 ≤ 4000 by decide)) ((hc.len sq).mono (show 100 ≤ 4000 by decide)) (lx.mono (show 100 ≤ 4000 by decide))
theorem iwithin_iv (a c x y : Rv) (p q p' q' : Rat) (r : Bool) (w : World) (hr : (decide (p' ≤ p) && decide (q ≤ q')) = r) (ha : Cu w a p) (hc : Cu w c q) (hx : Cu w x p') (hy : Cu w y q') (hpq : p ≤ q) (hpq' : p' ≤ q') (sp : Qs 100 p) (sq : Qs 100 q) (sp' : Qs 100 p') (sq' : Qs 100 q') :
    Calls Tryz.prog 9 #[.agg #[.bool a.s, .slice a.A a.n a.c, .slice a.B a.m a.d, .bool c.s, .slice c.A c.n c.c, .slice c.B c.m c.d], .agg #[.bool x.s, .slice x.A x.n x.c, .slice x.B x.m x.d, .bool y.s, .slice y.A y.n y.c, .slice y.B y.m y.d]] w (Asks w (.bool r)) :=
  pwithin_iv a c x y p q p' q' r w hr hpq ha.iu hc.iu hx.iu hy.iu ((ha.len sp).mono (show 100 ≤ 4000 by decide)) ((hc.len sq).mono (show 100 ≤ 4000 by decide)) ((hx.len sp').mono (show 100 ≤ 4000 by decide)) ((hy.len sq').mono (show 100 ≤ 4000 by decide))
theorem imul_iv (a c x y : Rv) (p q p' q' : Rat) (w : World) (ha : Cu w a p) (hc : Cu w c q) (hx : Cu w x p') (hy : Cu w y q') (hpq : p ≤ q) (hpq' : p' ≤ q') (sp : Qs 100 p) (sq : Qs 100 q) (sp' : Qs 100 p') (sq' : Qs 100 q') :
    Calls Tryz.prog 12 #[.agg #[.bool a.s, .slice a.A a.n a.c, .slice a.B a.m a.d, .bool c.s, .slice c.A c.n c.c, .slice c.B c.m c.d], .agg #[.bool x.s, .slice x.A x.n x.c, .slice x.B x.m x.d, .bool y.s, .slice y.A y.n y.c, .slice y.B y.m y.d]] w (GV w (min (min (p * p') (q * p')) (min (p * q') (q * q'))) (max (max (p * p') (q * p')) (max (p * q') (q * q')))) :=
  pmul_iv a c x y p q p' q' w ha.iu hc.iu hx.iu hy.iu ((ha.len sp).mono (show 100 ≤ 4000 by decide)) ((hc.len sq).mono (show 100 ≤ 4000 by decide)) ((hx.len sp').mono (show 100 ≤ 4000 by decide)) ((hy.len sq').mono (show 100 ≤ 4000 by decide)) sp sq sp' sq'
theorem irelu_iv (a c : Rv) (p q : Rat) (w : World) (ha : Cu w a p) (hc : Cu w c q) (hpq : p ≤ q) (sp : Qs 100 p) (sq : Qs 100 q) :
    Calls Tryz.prog 13 #[.agg #[.bool a.s, .slice a.A a.n a.c, .slice a.B a.m a.d, .bool c.s, .slice c.A c.n c.c, .slice c.B c.m c.d]] w (GV w (max p 0) (max q 0)) :=
  prelu_iv a c p q w ha.iu hc.iu ((ha.len sp).mono (show 100 ≤ 4000 by decide)) ((hc.len sq).mono (show 100 ≤ 4000 by decide))
theorem imeet_iv (a c x y : Rv) (p q p' q' : Rat) (w : World) (ha : Cu w a p) (hc : Cu w c q) (hx : Cu w x p') (hy : Cu w y q') (hpq : p ≤ q) (hpq' : p' ≤ q') (sp : Qs 100 p) (sq : Qs 100 q) (sp' : Qs 100 p') (sq' : Qs 100 q') (hle : max p p' ≤ min q q') :
    Calls Tryz.prog 10 #[.agg #[.bool a.s, .slice a.A a.n a.c, .slice a.B a.m a.d, .bool c.s, .slice c.A c.n c.c, .slice c.B c.m c.d], .agg #[.bool x.s, .slice x.A x.n x.c, .slice x.B x.m x.d, .bool y.s, .slice y.A y.n y.c, .slice y.B y.m y.d]] w (GVE w (max p p') (min q q') 0) :=
  pmeet_iv a c x y p q p' q' w ha.iu hc.iu hx.iu hy.iu ((ha.len sp).mono (show 100 ≤ 4000 by decide)) ((hc.len sq).mono (show 100 ≤ 4000 by decide)) ((hx.len sp').mono (show 100 ≤ 4000 by decide)) ((hy.len sq').mono (show 100 ≤ 4000 by decide)) sp sq sp' sq' hle
theorem imeet_no (a c x y : Rv) (p q p' q' : Rat) (w : World) (ha : Cu w a p) (hc : Cu w c q) (hx : Cu w x p') (hy : Cu w y q') (hpq : p ≤ q) (hpq' : p' ≤ q') (sp : Qs 100 p) (sq : Qs 100 q) (sp' : Qs 100 p') (sq' : Qs 100 q') (hle : ¬ max p p' ≤ min q q') :
    Calls Tryz.prog 10 #[.agg #[.bool a.s, .slice a.A a.n a.c, .slice a.B a.m a.d, .bool c.s, .slice c.A c.n c.c, .slice c.B c.m c.d], .agg #[.bool x.s, .slice x.A x.n x.c, .slice x.B x.m x.d, .bool y.s, .slice y.A y.n y.c, .slice y.B y.m y.d]] w (GVE w 0 0 10) :=
  pmeet_no a c x y p q p' q' w ha.iu hc.iu hx.iu hy.iu ((ha.len sp).mono (show 100 ≤ 4000 by decide)) ((hc.len sq).mono (show 100 ≤ 4000 by decide)) ((hx.len sp').mono (show 100 ≤ 4000 by decide)) ((hy.len sq').mono (show 100 ≤ 4000 by decide)) sp sq sp' sq' hle
end Go.Proofs.YtnddhohjfjlaiaaGreatDoor
