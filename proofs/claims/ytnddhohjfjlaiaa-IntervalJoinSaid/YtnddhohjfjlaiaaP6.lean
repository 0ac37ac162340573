/-
  What package interval answers, by its own text, in the form that the walks of the statements ask for.
-/
import Derived.Test.YtnddhohjfjlaiaaX2
import Derived.Test.YtnddhohjfjlaiaaX3
import Derived.Test.YtnddhohjfjlaiaaX5
import Derived.Test.YtnddhohjfjlaiaaX6
import Derived.Test.YtnddhohjfjlaiaaX8
namespace Go.Proofs.Ytnddhohjfjlaiaa
open Go.RowKit
set_option linter.unusedVariables false
set_option linter.unusedSimpArgs false

theorem imake_iv (a c : Rv) (p q : Rat) (w : World) (ha : Iu w a p) (hc : Iu w c q) (la : Lu 100 a) (lc : Lu 100 c) (sp : Qs 100 p) (sq : Qs 100 q) (h : p ≤ q) :
    Calls Try.prog 11 #[.agg #[.bool a.s, .slice a.A a.n a.c, .slice a.B a.m a.d], .agg #[.bool c.s, .slice c.A c.n c.c, .slice c.B c.m c.d]] w (GVE w p q 0) :=
  pmake_iv a c p q w ha hc (la.mono (show 100 ≤ 4000 by decide)) (lc.mono (show 100 ≤ 4000 by decide)) h
theorem imake_no (a c : Rv) (p q : Rat) (w : World) (ha : Iu w a p) (hc : Iu w c q) (la : Lu 100 a) (lc : Lu 100 c) (sp : Qs 100 p) (sq : Qs 100 q) (h : ¬ p ≤ q) :
    Calls Try.prog 11 #[.agg #[.bool a.s, .slice a.A a.n a.c, .slice a.B a.m a.d], .agg #[.bool c.s, .slice c.A c.n c.c, .slice c.B c.m c.d]] w (GVE w 0 0 2) :=
  pmake_no a c p q w ha hc (la.mono (show 100 ≤ 4000 by decide)) (lc.mono (show 100 ≤ 4000 by decide)) h
theorem ivalid_iv (u v : Rv) (xs ys xs' ys' : List Nat) (r : Bool) (w : World) (hr : (isC u.s xs ys && isC v.s xs' ys' && decide (rv u.s xs ys ≤ rv v.s xs' ys')) = r) (hu : Rx w u xs ys) (hv : Rx w v xs' ys') (lu : Lu 100 u) (lv : Lu 100 v) :
    Calls Try.prog 14 #[.agg #[.bool u.s, .slice u.A u.n u.c, .slice u.B u.m u.d, .bool v.s, .slice v.A v.n v.c, .slice v.B v.m v.d]] w (Asks w (.bool r)) :=
  pvalid_iv u v xs ys xs' ys' r w hr hu hv (lu.mono (show 100 ≤ 4000 by decide)) (lv.mono (show 100 ≤ 4000 by decide))
theorem icont_iv (a c x : Rv) (p q z : Rat) (r : Bool) (w : World) (hr : (decide (p ≤ z) && decide (z ≤ q)) = r) (ha : Cu w a p) (hc : Cu w c q) (hx : Iu w x z) (lx : Lu 100 x) (hpq : p ≤ q) (sp : Qs 100 p) (sq : Qs 100 q) (sz_ : Qs 100 z) :
    Calls Try.prog 16 #[.agg #[.bool a.s, .slice a.A a.n a.c, .slice a.B a.m a.d, .bool c.s, .slice c.A c.n c.c, .slice c.B c.m c.d], .agg #[.bool x.s, .slice x.A x.n x.c, .slice x.B x.m x.d]] w (Asks w (.bool r)) :=
  pcont_iv a c x p q z r w hr ha.iu hc.iu hx ((ha.len sp).mono (show 100 ≤ 4000 by decide)) ((hc.len sq).mono (show 100 ≤ 4000 by decide)) (lx.mono (show 100 ≤ 4000 by decide))
theorem iwithin_iv (a c x y : Rv) (p q p' q' : Rat) (r : Bool) (w : World) (hr : (decide (p' ≤ p) && decide (q ≤ q')) = r) (ha : Cu w a p) (hc : Cu w c q) (hx : Cu w x p') (hy : Cu w y q') (hpq : p ≤ q) (hpq' : p' ≤ q') (sp : Qs 100 p) (sq : Qs 100 q) (sp' : Qs 100 p') (sq' : Qs 100 q') :
    Calls Try.prog 39 #[.agg #[.bool a.s, .slice a.A a.n a.c, .slice a.B a.m a.d, .bool c.s, .slice c.A c.n c.c, .slice c.B c.m c.d], .agg #[.bool x.s, .slice x.A x.n x.c, .slice x.B x.m x.d, .bool y.s, .slice y.A y.n y.c, .slice y.B y.m y.d]] w (Asks w (.bool r)) :=
  pwithin_iv a c x y p q p' q' r w hr hpq ha.iu hc.iu hx.iu hy.iu ((ha.len sp).mono (show 100 ≤ 4000 by decide)) ((hc.len sq).mono (show 100 ≤ 4000 by decide)) ((hx.len sp').mono (show 100 ≤ 4000 by decide)) ((hy.len sq').mono (show 100 ≤ 4000 by decide))
theorem iadd_iv (a c x y : Rv) (p q p' q' : Rat) (w : World) (ha : Cu w a p) (hc : Cu w c q) (hx : Cu w x p') (hy : Cu w y q') (hpq : p ≤ q) (hpq' : p' ≤ q') (sp : Qs 100 p) (sq : Qs 100 q) (sp' : Qs 100 p') (sq' : Qs 100 q') :
    Calls Try.prog 19 #[.agg #[.bool a.s, .slice a.A a.n a.c, .slice a.B a.m a.d, .bool c.s, .slice c.A c.n c.c, .slice c.B c.m c.d], .agg #[.bool x.s, .slice x.A x.n x.c, .slice x.B x.m x.d, .bool y.s, .slice y.A y.n y.c, .slice y.B y.m y.d]] w (GV w (p + p') (q + q')) :=
  padd_iv a c x y p q p' q' w ha.iu hc.iu hx.iu hy.iu ((ha.len sp).mono (show 100 ≤ 4000 by decide)) ((hc.len sq).mono (show 100 ≤ 4000 by decide)) ((hx.len sp').mono (show 100 ≤ 4000 by decide)) ((hy.len sq').mono (show 100 ≤ 4000 by decide))
theorem ineg_iv (a c : Rv) (p q : Rat) (w : World) (ha : Cu w a p) (hc : Cu w c q) (hpq : p ≤ q) (sp : Qs 100 p) (sq : Qs 100 q) :
    Calls Try.prog 20 #[.agg #[.bool a.s, .slice a.A a.n a.c, .slice a.B a.m a.d, .bool c.s, .slice c.A c.n c.c, .slice c.B c.m c.d]] w (GV w (-q) (-p)) :=
  pneg_iv a c p q w ha.iu hc.iu ((ha.len sp).mono (show 100 ≤ 4000 by decide)) ((hc.len sq).mono (show 100 ≤ 4000 by decide))
theorem iscale_iv (a c x : Rv) (p q z : Rat) (w : World) (ha : Cu w a p) (hc : Cu w c q) (hx : Iu w x z) (lx : Lu 100 x) (hpq : p ≤ q) (sp : Qs 100 p) (sq : Qs 100 q) (sz_ : Qs 100 z) :
    Calls Try.prog 21 #[.agg #[.bool a.s, .slice a.A a.n a.c, .slice a.B a.m a.d, .bool c.s, .slice c.A c.n c.c, .slice c.B c.m c.d], .agg #[.bool x.s, .slice x.A x.n x.c, .slice x.B x.m x.d]] w (GV w (min (p * z) (q * z)) (max (p * z) (q * z))) :=
  pscale_iv a c x p q z w hpq ha.iu hc.iu hx ((ha.len sp).mono (show 100 ≤ 4000 by decide)) ((hc.len sq).mono (show 100 ≤ 4000 by decide)) (lx.mono (show 100 ≤ 4000 by decide))
theorem imul_iv (a c x y : Rv) (p q p' q' : Rat) (w : World) (ha : Cu w a p) (hc : Cu w c q) (hx : Cu w x p') (hy : Cu w y q') (hpq : p ≤ q) (hpq' : p' ≤ q') (sp : Qs 100 p) (sq : Qs 100 q) (sp' : Qs 100 p') (sq' : Qs 100 q') :
    Calls Try.prog 29 #[.agg #[.bool a.s, .slice a.A a.n a.c, .slice a.B a.m a.d, .bool c.s, .slice c.A c.n c.c, .slice c.B c.m c.d], .agg #[.bool x.s, .slice x.A x.n x.c, .slice x.B x.m x.d, .bool y.s, .slice y.A y.n y.c, .slice y.B y.m y.d]] w (GV w (min (min (p * p') (q * p')) (min (p * q') (q * q'))) (max (max (p * p') (q * p')) (max (p * q') (q * q')))) :=
  pmul_iv a c x y p q p' q' w ha.iu hc.iu hx.iu hy.iu ((ha.len sp).mono (show 100 ≤ 4000 by decide)) ((hc.len sq).mono (show 100 ≤ 4000 by decide)) ((hx.len sp').mono (show 100 ≤ 4000 by decide)) ((hy.len sq').mono (show 100 ≤ 4000 by decide)) sp sq sp' sq'
theorem irelu_iv (a c : Rv) (p q : Rat) (w : World) (ha : Cu w a p) (hc : Cu w c q) (hpq : p ≤ q) (sp : Qs 100 p) (sq : Qs 100 q) :
    Calls Try.prog 30 #[.agg #[.bool a.s, .slice a.A a.n a.c, .slice a.B a.m a.d, .bool c.s, .slice c.A c.n c.c, .slice c.B c.m c.d]] w (GV w (max p 0) (max q 0)) :=
  prelu_iv a c p q w ha.iu hc.iu ((ha.len sp).mono (show 100 ≤ 4000 by decide)) ((hc.len sq).mono (show 100 ≤ 4000 by decide))
theorem ijoin_iv (a c x y : Rv) (p q p' q' : Rat) (w : World) (ha : Cu w a p) (hc : Cu w c q) (hx : Cu w x p') (hy : Cu w y q') (hpq : p ≤ q) (hpq' : p' ≤ q') (sp : Qs 100 p) (sq : Qs 100 q) (sp' : Qs 100 p') (sq' : Qs 100 q') :
    Calls Try.prog 35 #[.agg #[.bool a.s, .slice a.A a.n a.c, .slice a.B a.m a.d, .bool c.s, .slice c.A c.n c.c, .slice c.B c.m c.d], .agg #[.bool x.s, .slice x.A x.n x.c, .slice x.B x.m x.d, .bool y.s, .slice y.A y.n y.c, .slice y.B y.m y.d]] w (GV w (min p p') (max q q')) :=
  pjoin_iv a c x y p q p' q' w ha.iu hc.iu hx.iu hy.iu ((ha.len sp).mono (show 100 ≤ 4000 by decide)) ((hc.len sq).mono (show 100 ≤ 4000 by decide)) ((hx.len sp').mono (show 100 ≤ 4000 by decide)) ((hy.len sq').mono (show 100 ≤ 4000 by decide))
theorem imeet_iv (a c x y : Rv) (p q p' q' : Rat) (w : World) (ha : Cu w a p) (hc : Cu w c q) (hx : Cu w x p') (hy : Cu w y q') (hpq : p ≤ q) (hpq' : p' ≤ q') (sp : Qs 100 p) (sq : Qs 100 q) (sp' : Qs 100 p') (sq' : Qs 100 q') (hle : max p p' ≤ min q q') :
    Calls Try.prog 36 #[.agg #[.bool a.s, .slice a.A a.n a.c, .slice a.B a.m a.d, .bool c.s, .slice c.A c.n c.c, .slice c.B c.m c.d], .agg #[.bool x.s, .slice x.A x.n x.c, .slice x.B x.m x.d, .bool y.s, .slice y.A y.n y.c, .slice y.B y.m y.d]] w (GVE w (max p p') (min q q') 0) :=
  pmeet_iv a c x y p q p' q' w ha.iu hc.iu hx.iu hy.iu ((ha.len sp).mono (show 100 ≤ 4000 by decide)) ((hc.len sq).mono (show 100 ≤ 4000 by decide)) ((hx.len sp').mono (show 100 ≤ 4000 by decide)) ((hy.len sq').mono (show 100 ≤ 4000 by decide)) sp sq sp' sq' hle
theorem imeet_no (a c x y : Rv) (p q p' q' : Rat) (w : World) (ha : Cu w a p) (hc : Cu w c q) (hx : Cu w x p') (hy : Cu w y q') (hpq : p ≤ q) (hpq' : p' ≤ q') (sp : Qs 100 p) (sq : Qs 100 q) (sp' : Qs 100 p') (sq' : Qs 100 q') (hle : ¬ max p p' ≤ min q q') :
    Calls Try.prog 36 #[.agg #[.bool a.s, .slice a.A a.n a.c, .slice a.B a.m a.d, .bool c.s, .slice c.A c.n c.c, .slice c.B c.m c.d], .agg #[.bool x.s, .slice x.A x.n x.c, .slice x.B x.m x.d, .bool y.s, .slice y.A y.n y.c, .slice y.B y.m y.d]] w (GVE w 0 0 10) :=
  pmeet_no a c x y p q p' q' w ha.iu hc.iu hx.iu hy.iu ((ha.len sp).mono (show 100 ≤ 4000 by decide)) ((hc.len sq).mono (show 100 ≤ 4000 by decide)) ((hx.len sp').mono (show 100 ≤ 4000 by decide)) ((hy.len sq').mono (show 100 ≤ 4000 by decide)) sp sq sp' sq' hle
end Go.Proofs.Ytnddhohjfjlaiaa
