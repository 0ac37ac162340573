/-
  Several texts in one, in build order: V2 V3 V4 V5 V6.
-/
import Derived.Test.YtnddhohjfjlaiaaGreatDoorV1

/-
  The specification's Same, Valid, Contains, Within.
-/
namespace Go.Proofs.YtnddhohjfjlaiaaGreatDoor
open Go.RowKit
set_option linter.unusedVariables false
set_option linter.unusedSimpArgs false

theorem same_iv (a c x y : Rv) (p q : Rat) (w : World) (ha : Cu w a p) (hc : Cu w c q) (hx : Cu w x p) (hy : Cu w y q) (la : Lu 4000 a) (lc : Lu 4000 c) : Calls Tryz.prog 8 #[.agg #[.bool a.s, .slice a.A a.n a.c, .slice a.B a.m a.d, .bool c.s, .slice c.A c.n c.c, .slice c.B c.m c.d], .agg #[.bool x.s, .slice x.A x.n x.c, .slice x.B x.m x.d, .bool y.s, .slice y.A y.n y.c, .slice y.B y.m y.d]] w (Asks w (.bool true)) := by
  have ha_1 := ha.alloc (EV a c)
  have hc_1 := hc.alloc (EV a c)
  have hx_1 := hx.alloc (EV a c)
  have hy_1 := hy.alloc (EV a c)
  have ba_1 : Sv ((w).alloc (EV a c)) (w.heap.size) a c := by have h_ := Sv.new (w) a c; exact h_
  have F1 := (Below.refl w.heap.size w).alloc (Nat.le_refl _) (EV a c)
  have ha_2 := ha_1.alloc (EV x y)
  have hc_2 := hc_1.alloc (EV x y)
  have hx_2 := hx_1.alloc (EV x y)
  have hy_2 := hy_1.alloc (EV x y)
  have ba_2 := ba_1.alloc (EV x y)
  have bb_2 : Sv (((w).alloc (EV a c)).alloc (EV x y)) (w.heap.size + 1) x y := by have h_ := Sv.new ((w).alloc (EV a c)) x y; simp only [World.size_alloc] at h_; exact h_
  have F2 := F1.alloc F1.size (EV x y)
  go_enter Tryz.func8, Tryz.ntmps8
  have ba_u2 := ba_2.cell0
  have ba_v2 := ba_2.cell1
  have ba_w2 := ba_2.cell2
  have ba_x2 := ba_2.cell3
  have ba_y2 := ba_2.cell4
  have ba_z2 := ba_2.cell5
  have bb_u2 := bb_2.cell0
  have bb_v2 := bb_2.cell1
  have bb_w2 := bb_2.cell2
  have bb_x2 := bb_2.cell3
  have bb_y2 := bb_2.cell4
  have bb_z2 := bb_2.cell5
  go_wp2_with fail
  refine (same_u _ _ p _ ha_2 hx_2 la).mono ?_
  rintro e w3 ⟨rfl, b3⟩
  have ha_3 := ha_2.below b3
  have hc_3 := hc_2.below b3
  have hx_3 := hx_2.below b3
  have hy_3 := hy_2.below b3
  have ba_3 := ba_2.below b3 ba_2.lt
  have bb_3 := bb_2.below b3 bb_2.lt
  have F3 := below_then F2 (Nat.le_refl _) b3
  have ba_u3 := ba_3.cell0
  have ba_v3 := ba_3.cell1
  have ba_w3 := ba_3.cell2
  have ba_x3 := ba_3.cell3
  have ba_y3 := ba_3.cell4
  have ba_z3 := ba_3.cell5
  have bb_u3 := bb_3.cell0
  have bb_v3 := bb_3.cell1
  have bb_w3 := bb_3.cell2
  have bb_x3 := bb_3.cell3
  have bb_y3 := bb_3.cell4
  have bb_z3 := bb_3.cell5
  go_wp2_with fail
  refine (same_u _ _ q _ hc_3 hy_3 lc).mono ?_
  rintro e w4 ⟨rfl, b4⟩
  have ha_4 := ha_3.below b4
  have hc_4 := hc_3.below b4
  have hx_4 := hx_3.below b4
  have hy_4 := hy_3.below b4
  have ba_4 := ba_3.below b4 ba_3.lt
  have bb_4 := bb_3.below b4 bb_3.lt
  have F4 := below_then F3 (Nat.le_refl _) b4
  have ba_u4 := ba_4.cell0
  have ba_v4 := ba_4.cell1
  have ba_w4 := ba_4.cell2
  have ba_x4 := ba_4.cell3
  have ba_y4 := ba_4.cell4
  have ba_z4 := ba_4.cell5
  have bb_u4 := bb_4.cell0
  have bb_v4 := bb_4.cell1
  have bb_w4 := bb_4.cell2
  have bb_x4 := bb_4.cell3
  have bb_y4 := bb_4.cell4
  have bb_z4 := bb_4.cell5
  go_wp2
  go_ret
  exact ⟨rfl, F4⟩
theorem valid_a (u v : Rv) (xs ys xs' ys' : List Nat) (w : World) (hu : Rx w u xs ys) (hv : Rx w v xs' ys') (lu : Lu 4000 u) (lv : Lu 4000 v) (h1 : isC u.s xs ys = false) : Calls Tryz.prog 16 #[.agg #[.bool u.s, .slice u.A u.n u.c, .slice u.B u.m u.d, .bool v.s, .slice v.A v.n v.c, .slice v.B v.m v.d]] w (Asks w (.bool false)) := by
  have H1 := hide h1
  clear h1
  have hu_1 := hu.alloc (EV u v)
  have bx_1 : Sv ((w).alloc (EV u v)) (w.heap.size) u v := by have h_ := Sv.new (w) u v; exact h_
  have F1 := (Below.refl w.heap.size w).alloc (Nat.le_refl _) (EV u v)
  go_enter Tryz.func16, Tryz.ntmps16
  have bx_u1 := bx_1.cell0
  have bx_v1 := bx_1.cell1
  have bx_w1 := bx_1.cell2
  have bx_x1 := bx_1.cell3
  have bx_y1 := bx_1.cell4
  have bx_z1 := bx_1.cell5
  go_wp2_with fail
  refine (valid_u _ _ _ false _ H1.out hu_1 lu).mono ?_
  rintro e w2 ⟨rfl, b2⟩
  have hu_2 := hu_1.below b2
  have bx_2 := bx_1.below b2 bx_1.lt
  have F2 := below_then F1 (Nat.le_refl _) b2
  have bx_u2 := bx_2.cell0
  have bx_v2 := bx_2.cell1
  have bx_w2 := bx_2.cell2
  have bx_x2 := bx_2.cell3
  have bx_y2 := bx_2.cell4
  have bx_z2 := bx_2.cell5
  go_wp2
  go_ret
  exact ⟨rfl, F2⟩
theorem valid_b (u v : Rv) (xs ys xs' ys' : List Nat) (w : World) (hu : Rx w u xs ys) (hv : Rx w v xs' ys') (lu : Lu 4000 u) (lv : Lu 4000 v) (h1 : isC u.s xs ys = true) (h2 : isC v.s xs' ys' = false) : Calls Tryz.prog 16 #[.agg #[.bool u.s, .slice u.A u.n u.c, .slice u.B u.m u.d, .bool v.s, .slice v.A v.n v.c, .slice v.B v.m v.d]] w (Asks w (.bool false)) := by
  have H1 := hide h1
  have H2 := hide h2
  clear h1 h2
  have hu_1 := hu.alloc (EV u v)
  have hv_1 := hv.alloc (EV u v)
  have bx_1 : Sv ((w).alloc (EV u v)) (w.heap.size) u v := by have h_ := Sv.new (w) u v; exact h_
  have F1 := (Below.refl w.heap.size w).alloc (Nat.le_refl _) (EV u v)
  go_enter Tryz.func16, Tryz.ntmps16
  have bx_u1 := bx_1.cell0
  have bx_v1 := bx_1.cell1
  have bx_w1 := bx_1.cell2
  have bx_x1 := bx_1.cell3
  have bx_y1 := bx_1.cell4
  have bx_z1 := bx_1.cell5
  go_wp2_with fail
  refine (valid_u _ _ _ true _ H1.out hu_1 lu).mono ?_
  rintro e w2 ⟨rfl, b2⟩
  have hu_2 := hu_1.below b2
  have hv_2 := hv_1.below b2
  have bx_2 := bx_1.below b2 bx_1.lt
  have F2 := below_then F1 (Nat.le_refl _) b2
  have bx_u2 := bx_2.cell0
  have bx_v2 := bx_2.cell1
  have bx_w2 := bx_2.cell2
  have bx_x2 := bx_2.cell3
  have bx_y2 := bx_2.cell4
  have bx_z2 := bx_2.cell5
  go_wp2_with fail
  refine (valid_u _ _ _ false _ H2.out hv_2 lv).mono ?_
  rintro e w3 ⟨rfl, b3⟩
  have hv_3 := hv_2.below b3
  have bx_3 := bx_2.below b3 bx_2.lt
  have F3 := below_then F2 (Nat.le_refl _) b3
  have bx_u3 := bx_3.cell0
  have bx_v3 := bx_3.cell1
  have bx_w3 := bx_3.cell2
  have bx_x3 := bx_3.cell3
  have bx_y3 := bx_3.cell4
  have bx_z3 := bx_3.cell5
  go_wp2
  go_ret
  exact ⟨rfl, F3⟩
theorem valid_c (u v : Rv) (xs ys xs' ys' : List Nat) (w : World) (hu : Rx w u xs ys) (hv : Rx w v xs' ys') (lu : Lu 4000 u) (lv : Lu 4000 v) (h1 : isC u.s xs ys = true) (h2 : isC v.s xs' ys' = true) : Calls Tryz.prog 16 #[.agg #[.bool u.s, .slice u.A u.n u.c, .slice u.B u.m u.d, .bool v.s, .slice v.A v.n v.c, .slice v.B v.m v.d]] w (Asks w (.bool (decide (rv u.s xs ys ≤ rv v.s xs' ys')))) := by
  have H1 := hide h1
  have H2 := hide h2
  obtain ⟨r, hr⟩ : ∃ r, sz (rv u.s xs ys - rv v.s xs' ys').num = r := ⟨_, rfl⟩
  rw [← sz_dec, hr]
  have HR := hide hr
  have hp := hu.iu
  have hq := hv.iu
  clear hr
  clear h1 h2
  have hu_1 := hu.alloc (EV u v)
  have hv_1 := hv.alloc (EV u v)
  have hp_1 := hp.alloc (EV u v)
  have hq_1 := hq.alloc (EV u v)
  have bx_1 : Sv ((w).alloc (EV u v)) (w.heap.size) u v := by have h_ := Sv.new (w) u v; exact h_
  have F1 := (Below.refl w.heap.size w).alloc (Nat.le_refl _) (EV u v)
  go_enter Tryz.func16, Tryz.ntmps16
  have bx_u1 := bx_1.cell0
  have bx_v1 := bx_1.cell1
  have bx_w1 := bx_1.cell2
  have bx_x1 := bx_1.cell3
  have bx_y1 := bx_1.cell4
  have bx_z1 := bx_1.cell5
  go_wp2_with fail
  refine (valid_u _ _ _ true _ H1.out hu_1 lu).mono ?_
  rintro e w2 ⟨rfl, b2⟩
  have hu_2 := hu_1.below b2
  have hv_2 := hv_1.below b2
  have hp_2 := hp_1.below b2
  have hq_2 := hq_1.below b2
  have bx_2 := bx_1.below b2 bx_1.lt
  have F2 := below_then F1 (Nat.le_refl _) b2
  have bx_u2 := bx_2.cell0
  have bx_v2 := bx_2.cell1
  have bx_w2 := bx_2.cell2
  have bx_x2 := bx_2.cell3
  have bx_y2 := bx_2.cell4
  have bx_z2 := bx_2.cell5
  go_wp2_with fail
  refine (valid_u _ _ _ true _ H2.out hv_2 lv).mono ?_
  rintro e w3 ⟨rfl, b3⟩
  have hv_3 := hv_2.below b3
  have hp_3 := hp_2.below b3
  have hq_3 := hq_2.below b3
  have bx_3 := bx_2.below b3 bx_2.lt
  have F3 := below_then F2 (Nat.le_refl _) b3
  have bx_u3 := bx_3.cell0
  have bx_v3 := bx_3.cell1
  have bx_w3 := bx_3.cell2
  have bx_x3 := bx_3.cell3
  have bx_y3 := bx_3.cell4
  have bx_z3 := bx_3.cell5
  go_wp2_with fail
  refine (cmp_u _ _ _ _ r _ HR.out hp_3 hq_3 lu lv).mono ?_
  rintro e w4 ⟨rfl, b4⟩
  have hp_4 := hp_3.below b4
  have hq_4 := hq_3.below b4
  have bx_4 := bx_3.below b4 bx_3.lt
  have F4 := below_then F3 (Nat.le_refl _) b4
  have bx_u4 := bx_4.cell0
  have bx_v4 := bx_4.cell1
  have bx_w4 := bx_4.cell2
  have bx_x4 := bx_4.cell3
  have bx_y4 := bx_4.cell4
  have bx_z4 := bx_4.cell5
  go_wp2
  go_ret
  exact ⟨rfl, F4⟩
theorem valid_iv (u v : Rv) (xs ys xs' ys' : List Nat) (r : Bool) (w : World) (hr : (isC u.s xs ys && isC v.s xs' ys' && decide (rv u.s xs ys ≤ rv v.s xs' ys')) = r) (hu : Rx w u xs ys) (hv : Rx w v xs' ys') (lu : Lu 4000 u) (lv : Lu 4000 v) :
    Calls Tryz.prog 16 #[.agg #[.bool u.s, .slice u.A u.n u.c, .slice u.B u.m u.d, .bool v.s, .slice v.A v.n v.c, .slice v.B v.m v.d]] w (Asks w (.bool r)) := by
  subst hr
  rcases Bool.eq_false_or_eq_true (isC u.s xs ys) with h1 | h1
  · rcases Bool.eq_false_or_eq_true (isC v.s xs' ys') with h2 | h2
    · rw [h1, h2]
      simpa using valid_c u v xs ys xs' ys' w hu hv lu lv h1 h2
    · rw [h1, h2]
      simpa using valid_b u v xs ys xs' ys' w hu hv lu lv h1 h2
  · rw [h1]
    simpa using valid_a u v xs ys xs' ys' w hu hv lu lv h1
end Go.Proofs.YtnddhohjfjlaiaaGreatDoor

/-
  The specification's Add, Join, Neg, Relu, Make.
-/
namespace Go.Proofs.YtnddhohjfjlaiaaGreatDoor
open Go.RowKit
set_option linter.unusedVariables false
set_option linter.unusedSimpArgs false

end Go.Proofs.YtnddhohjfjlaiaaGreatDoor

/-
  A point of an interval.
-/
namespace Go.Proofs.YtnddhohjfjlaiaaGreatDoor
open Go.RowKit
set_option linter.unusedVariables false
set_option linter.unusedSimpArgs false

theorem Cu.storQ {w : World} {a : Rv} {q : Rat} (h : Cu w a q) {g : Nat} {s0 : Bool} {A0 B0 : Option Addr} {l0 d0 l1 d1 : Nat} (hs : Sq w g (.bool s0) (.slice A0 l0 d0) (.slice B0 l1 d1)) (u0 u1 u2 : Value) : Cu (((w.setCell ⟨g, 0, none⟩ u0).setCell ⟨g, 1, none⟩ u1).setCell ⟨g, 2, none⟩ u2) a q := ⟨h.1.storQ hs _ _ _, h.2.1.storQ hs _ _ _, h.2.2⟩
theorem Iu.storQ {w : World} {a : Rv} {q : Rat} (h : Iu w a q) {g : Nat} {s0 : Bool} {A0 B0 : Option Addr} {l0 d0 l1 d1 : Nat} (hs : Sq w g (.bool s0) (.slice A0 l0 d0) (.slice B0 l1 d1)) (u0 u1 u2 : Value) : Iu (((w.setCell ⟨g, 0, none⟩ u0).setCell ⟨g, 1, none⟩ u1).setCell ⟨g, 2, none⟩ u2) a q := by
  obtain ⟨xs, ys, h1, h2, h3⟩ := h
  exact ⟨xs, ys, h1.storQ hs _ _ _, h2.storQ hs _ _ _, h3⟩
theorem Sq_at {w : World} {g g' : Nat} {v0 v1 v2 : Value} (h : Sq w g v0 v1 v2) (e : g = g') : Sq w g' v0 v1 v2 := e ▸ h
theorem frac_qs (o : Int) (ho : 0 ≤ o ∧ o < 256) : Qs 1 ((o : Rat) / ((255 : Int) : Rat)) := by
  have h := mk_size o 255 (by decide)
  rw [Rat.mkRat_eq_div] at h
  have e : (((255 : Nat) : Nat) : Rat) = (((255 : Int)) : Rat) := rfl
  rw [e] at h
  have h1 : pw 1 = 4294967296 := rfl
  unfold Qs
  omega
end Go.Proofs.YtnddhohjfjlaiaaGreatDoor

/-
  The specification's Scale.
-/
namespace Go.Proofs.YtnddhohjfjlaiaaGreatDoor
open Go.RowKit
set_option linter.unusedVariables false
set_option linter.unusedSimpArgs false

end Go.Proofs.YtnddhohjfjlaiaaGreatDoor

/-
  The specification's Mul, Meet.
-/
namespace Go.Proofs.YtnddhohjfjlaiaaGreatDoor
open Go.RowKit
set_option linter.unusedVariables false
set_option linter.unusedSimpArgs false

theorem Cu.stor6 {w : World} {a : Rv} {q : Rat} (h : Cu w a q) {g : Nat} {s t : Bool} {A1 A2 A3 A4 : Option Addr} {n1 n2 n3 n4 c1 c2 c3 c4 : Nat} (hs : S6 w g (.bool s) (.slice A1 n1 c1) (.slice A2 n2 c2) (.bool t) (.slice A3 n3 c3) (.slice A4 n4 c4)) (u0 u1 u2 u3 u4 u5 : Value) : Cu ((((((w.setCell ⟨g, 0, none⟩ u0).setCell ⟨g, 1, none⟩ u1).setCell ⟨g, 2, none⟩ u2).setCell ⟨g, 3, none⟩ u3).setCell ⟨g, 4, none⟩ u4).setCell ⟨g, 5, none⟩ u5) a q := ⟨h.1.six (S6.away6 hs h.1) _ _ _ _ _ _, h.2.1.six (S6.away6 hs h.2.1) _ _ _ _ _ _, h.2.2⟩
theorem Iu.stor6 {w : World} {a : Rv} {q : Rat} (h : Iu w a q) {g : Nat} {s t : Bool} {A1 A2 A3 A4 : Option Addr} {n1 n2 n3 n4 c1 c2 c3 c4 : Nat} (hs : S6 w g (.bool s) (.slice A1 n1 c1) (.slice A2 n2 c2) (.bool t) (.slice A3 n3 c3) (.slice A4 n4 c4)) (u0 u1 u2 u3 u4 u5 : Value) : Iu ((((((w.setCell ⟨g, 0, none⟩ u0).setCell ⟨g, 1, none⟩ u1).setCell ⟨g, 2, none⟩ u2).setCell ⟨g, 3, none⟩ u3).setCell ⟨g, 4, none⟩ u4).setCell ⟨g, 5, none⟩ u5) a q := by
  obtain ⟨xs, ys, h1, h2, h3⟩ := h
  exact ⟨xs, ys, h1.six (S6.away6 hs h1) _ _ _ _ _ _, h2.six (S6.away6 hs h2) _ _ _ _ _ _, h3⟩
theorem qs_min {k : Nat} {p q : Rat} (h1 : Qs k p) (h2 : Qs k q) : Qs k (min p q) := by
  rw [← mn_of]
  split <;> assumption
theorem qs_max {k : Nat} {p q : Rat} (h1 : Qs k p) (h2 : Qs k q) : Qs k (max p q) := by
  rw [← mx_of]
  split <;> assumption
end Go.Proofs.YtnddhohjfjlaiaaGreatDoor
