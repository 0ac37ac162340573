/-
  The program's package rational, numbers bundled.
-/
import Derived.Test.YtnddhohjfjlaiaaGreatDoorV1
import Derived.Test.YtnddhohjfjlaiaaGreatDoorQ4
namespace Go.Proofs.YtnddhohjfjlaiaaGreatDoor
open Go.RowKit
set_option linter.unusedVariables false
set_option linter.unusedSimpArgs false

theorem pmul_u (u v : Rv) (p q r : Rat) (w : World) (hr : p * q = r) (h : Iu w u p) (k : Iu w v q) (hu : Lu 4000 u) (hv : Lu 4000 v) : Calls Tryz.prog 28 #[.agg #[.bool u.s, .slice u.A u.n u.c, .slice u.B u.m u.d], .agg #[.bool v.s, .slice v.A v.n v.c, .slice v.B v.m v.d]] w (GU w r) :=
  (mul_q _ _ _ _ _ _ _ _ _ _ _ _ _ _ p q r w hr h k hu.1 hu.2 hv.1 hv.2).mono fun _ _ => gu_of
theorem pmin_u (u v : Rv) (p q r : Rat) (w : World) (hr : min p q = r) (h : Iu w u p) (k : Iu w v q) (hu : Lu 4000 u) (hv : Lu 4000 v) : Calls Tryz.prog 25 #[.agg #[.bool u.s, .slice u.A u.n u.c, .slice u.B u.m u.d], .agg #[.bool v.s, .slice v.A v.n v.c, .slice v.B v.m v.d]] w (GU w r) :=
  (min_q _ _ _ _ _ _ _ _ _ _ _ _ _ _ p q r w ((mn_of p q).trans hr) h k hu.1 hu.2 hv.1 hv.2).mono fun _ _ => gu_of
theorem pmax_u (u v : Rv) (p q r : Rat) (w : World) (hr : max p q = r) (h : Iu w u p) (k : Iu w v q) (hu : Lu 4000 u) (hv : Lu 4000 v) : Calls Tryz.prog 24 #[.agg #[.bool u.s, .slice u.A u.n u.c, .slice u.B u.m u.d], .agg #[.bool v.s, .slice v.A v.n v.c, .slice v.B v.m v.d]] w (GU w r) :=
  (max_q _ _ _ _ _ _ _ _ _ _ _ _ _ _ p q r w ((mx_of p q).trans hr) h k hu.1 hu.2 hv.1 hv.2).mono fun _ _ => gu_of
theorem pcmp_u (u v : Rv) (p q : Rat) (r : Int) (w : World) (hr : sz (p - q).num = r) (h : Iu w u p) (k : Iu w v q) (hu : Lu 4000 u) (hv : Lu 4000 v) : Calls Tryz.prog 26 #[.agg #[.bool u.s, .slice u.A u.n u.c, .slice u.B u.m u.d], .agg #[.bool v.s, .slice v.A v.n v.c, .slice v.B v.m v.d]] w (Asks w (.int .i64 r)) :=
  cmp_q _ _ _ _ _ _ _ _ _ _ _ _ _ _ p q r w hr h k hu.1 hu.2 hv.1 hv.2
theorem pcanon_u (u : Rv) (p : Rat) (w : World) (h : Iu w u p) (hu : Lu 4000 u) : Calls Tryz.prog 39 #[.agg #[.bool u.s, .slice u.A u.n u.c, .slice u.B u.m u.d]] w (GU w p) :=
  (canon_q _ _ _ _ _ _ _ p w h (by have := hu.1; omega) (by have := hu.2; omega)).mono fun _ _ => gu_of
end Go.Proofs.YtnddhohjfjlaiaaGreatDoor
