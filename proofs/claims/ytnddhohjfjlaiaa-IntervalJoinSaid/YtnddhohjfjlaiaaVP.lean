/-
  The program's package rational, numbers bundled.
-/
import Derived.Test.YtnddhohjfjlaiaaV1
import Derived.Test.YtnddhohjfjlaiaaQ4
namespace Go.Proofs.Ytnddhohjfjlaiaa
open Go.RowKit
set_option linter.unusedVariables false
set_option linter.unusedSimpArgs false

theorem padd_u (u v : Rv) (p q r : Rat) (w : World) (hr : p + q = r) (h : Iu w u p) (k : Iu w v q) (hu : Lu 4000 u) (hv : Lu 4000 v) : Calls Try.prog 48 #[.agg #[.bool u.s, .slice u.A u.n u.c, .slice u.B u.m u.d], .agg #[.bool v.s, .slice v.A v.n v.c, .slice v.B v.m v.d]] w (GU w r) :=
  (add_q _ _ _ _ _ _ _ _ _ _ _ _ _ _ p q r w hr h k hu.1 hu.2 hv.1 hv.2).mono fun _ _ => gu_of
theorem pmul_u (u v : Rv) (p q r : Rat) (w : World) (hr : p * q = r) (h : Iu w u p) (k : Iu w v q) (hu : Lu 4000 u) (hv : Lu 4000 v) : Calls Try.prog 51 #[.agg #[.bool u.s, .slice u.A u.n u.c, .slice u.B u.m u.d], .agg #[.bool v.s, .slice v.A v.n v.c, .slice v.B v.m v.d]] w (GU w r) :=
  (mul_q _ _ _ _ _ _ _ _ _ _ _ _ _ _ p q r w hr h k hu.1 hu.2 hv.1 hv.2).mono fun _ _ => gu_of
theorem pmin_u (u v : Rv) (p q r : Rat) (w : World) (hr : min p q = r) (h : Iu w u p) (k : Iu w v q) (hu : Lu 4000 u) (hv : Lu 4000 v) : Calls Try.prog 61 #[.agg #[.bool u.s, .slice u.A u.n u.c, .slice u.B u.m u.d], .agg #[.bool v.s, .slice v.A v.n v.c, .slice v.B v.m v.d]] w (GU w r) :=
  (min_q _ _ _ _ _ _ _ _ _ _ _ _ _ _ p q r w ((mn_of p q).trans hr) h k hu.1 hu.2 hv.1 hv.2).mono fun _ _ => gu_of
theorem pmax_u (u v : Rv) (p q r : Rat) (w : World) (hr : max p q = r) (h : Iu w u p) (k : Iu w v q) (hu : Lu 4000 u) (hv : Lu 4000 v) : Calls Try.prog 59 #[.agg #[.bool u.s, .slice u.A u.n u.c, .slice u.B u.m u.d], .agg #[.bool v.s, .slice v.A v.n v.c, .slice v.B v.m v.d]] w (GU w r) :=
  (max_q _ _ _ _ _ _ _ _ _ _ _ _ _ _ p q r w ((mx_of p q).trans hr) h k hu.1 hu.2 hv.1 hv.2).mono fun _ _ => gu_of
theorem pcmp_u (u v : Rv) (p q : Rat) (r : Int) (w : World) (hr : sz (p - q).num = r) (h : Iu w u p) (k : Iu w v q) (hu : Lu 4000 u) (hv : Lu 4000 v) : Calls Try.prog 42 #[.agg #[.bool u.s, .slice u.A u.n u.c, .slice u.B u.m u.d], .agg #[.bool v.s, .slice v.A v.n v.c, .slice v.B v.m v.d]] w (Asks w (.int .i64 r)) :=
  cmp_q _ _ _ _ _ _ _ _ _ _ _ _ _ _ p q r w hr h k hu.1 hu.2 hv.1 hv.2
theorem pneg_u (u : Rv) (p r : Rat) (w : World) (hr : -p = r) (h : Iu w u p) (hu : Lu 4000 u) : Calls Try.prog 49 #[.agg #[.bool u.s, .slice u.A u.n u.c, .slice u.B u.m u.d]] w (GU w r) := by
  subst hr
  exact (neg_q _ _ _ _ _ _ _ p w h (by have := hu.1; omega) (by have := hu.2; omega)).mono fun _ _ => gu_of
theorem pcanon_u (u : Rv) (p : Rat) (w : World) (h : Iu w u p) (hu : Lu 4000 u) : Calls Try.prog 43 #[.agg #[.bool u.s, .slice u.A u.n u.c, .slice u.B u.m u.d]] w (GU w p) :=
  (canon_q _ _ _ _ _ _ _ p w h (by have := hu.1; omega) (by have := hu.2; omega)).mono fun _ _ => gu_of
theorem psign_u (u : Rv) (p : Rat) (r : Int) (w : World) (hr : sz p.num = r) (h : Iu w u p) (hu : Lu 4000 u) : Calls Try.prog 50 #[.agg #[.bool u.s, .slice u.A u.n u.c, .slice u.B u.m u.d]] w (Asks w (.int .i64 r)) :=
  sign_q _ _ _ _ _ _ _ p r w hr h (by have := hu.1; omega)
theorem pvalid_u (u : Rv) (xs ys : List Nat) (r : Bool) (w : World) (hr : isC u.s xs ys = r) (h : Rx w u xs ys) (hl : Lu 4000 u) : Calls Try.prog 46 #[.agg #[.bool u.s, .slice u.A u.n u.c, .slice u.B u.m u.d]] w (Asks w (.bool r)) := by
  have hq : Qs 4000 (rv u.s xs ys) := h.iu.size hl (by decide)
  exact valid_q _ _ _ _ _ _ _ xs ys _ r w hr rfl h.1 h.2 (by have := hl.1; omega) (by have := hl.2; omega) 4000 (by decide) hq.1 hq.2
end Go.Proofs.Ytnddhohjfjlaiaa
