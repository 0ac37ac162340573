/-
  The specification's Scale.
-/
import Derived.Test.YtnddhohjfjlaiaaV4
namespace Go.Proofs.Ytnddhohjfjlaiaa
open Go.RowKit
set_option linter.unusedVariables false
set_option linter.unusedSimpArgs false

set_option maxHeartbeats 2000000 in
theorem scale_iv (a c x : Rv) (p q z : Rat) (w : World) (ha : Iu w a p) (hc : Iu w c q) (hx : Iu w x z) (la : Lu 4000 a) (lc : Lu 4000 c) (lx : Lu 4000 x) (sp : Qs 100 p) (sq : Qs 100 q) (sz : Qs 100 z) : Calls Try.prog 24 #[.agg #[.bool a.s, .slice a.A a.n a.c, .slice a.B a.m a.d, .bool c.s, .slice c.A c.n c.c, .slice c.B c.m c.d], .agg #[.bool x.s, .slice x.A x.n x.c, .slice x.B x.m x.d]] w (GV w (min (p * z) (q * z)) (max (p * z) (q * z))) := by
  have s1 : Qs 200 (p * z) := by have h := size_mul sp sz; exact h
  have s2 : Qs 200 (q * z) := by have h := size_mul sq sz; exact h
  have k2 : 200 ≤ 4000 := by decide
  have ha_1 := ha.alloc (EV a c)
  have hc_1 := hc.alloc (EV a c)
  have hx_1 := hx.alloc (EV a c)
  have bx_1 : Sv ((w).alloc (EV a c)) (w.heap.size) a c := by have h_ := Sv.new (w) a c; exact h_
  have F1 := (Below.refl w.heap.size w).alloc (Nat.le_refl _) (EV a c)
  have ha_2 := ha_1.alloc (EU x)
  have hc_2 := hc_1.alloc (EU x)
  have hx_2 := hx_1.alloc (EU x)
  have bx_2 := bx_1.alloc (EU x)
  have by_2 : Su (((w).alloc (EV a c)).alloc (EU x)) (w.heap.size + 1) x := by have h_ := Su.new ((w).alloc (EV a c)) x; simp only [World.size_alloc] at h_; exact h_
  have F2 := F1.alloc F1.size (EU x)
  have ha_3 := ha_2.alloc EV0
  have hc_3 := hc_2.alloc EV0
  have hx_3 := hx_2.alloc EV0
  have bx_3 := bx_2.alloc EV0
  have by_3 := by_2.alloc EV0
  have br_3 : Sv ((((w).alloc (EV a c)).alloc (EU x)).alloc EV0) (w.heap.size + 2) Rv.zero Rv.zero := by have h_ := Sv.new (((w).alloc (EV a c)).alloc (EU x)) Rv.zero Rv.zero; simp only [World.size_alloc] at h_; exact h_
  have F3 := F2.alloc F2.size EV0
  go_enter Try.func24, Try.ntmps24
  have bx_u3 := bx_3.cell0
  have bx_v3 := bx_3.cell1
  have bx_w3 := bx_3.cell2
  have bx_x3 := bx_3.cell3
  have bx_y3 := bx_3.cell4
  have bx_z3 := bx_3.cell5
  have by_u3 := by_3.cell0
  have by_v3 := by_3.cell1
  have by_w3 := by_3.cell2
  have br_u3 : ((((w).alloc (EV a c)).alloc (EU x)).alloc EV0).cell? ⟨w.heap.size + 2, 0, none⟩ = some (.bool false) := br_3.cell0
  have br_v3 : ((((w).alloc (EV a c)).alloc (EU x)).alloc EV0).cell? ⟨w.heap.size + 2, 1, none⟩ = some (.slice none 0 0) := br_3.cell1
  have br_w3 : ((((w).alloc (EV a c)).alloc (EU x)).alloc EV0).cell? ⟨w.heap.size + 2, 2, none⟩ = some (.slice none 0 0) := br_3.cell2
  have br_x3 : ((((w).alloc (EV a c)).alloc (EU x)).alloc EV0).cell? ⟨w.heap.size + 2, 3, none⟩ = some (.bool false) := br_3.cell3
  have br_y3 : ((((w).alloc (EV a c)).alloc (EU x)).alloc EV0).cell? ⟨w.heap.size + 2, 4, none⟩ = some (.slice none 0 0) := br_3.cell4
  have br_z3 : ((((w).alloc (EV a c)).alloc (EU x)).alloc EV0).cell? ⟨w.heap.size + 2, 5, none⟩ = some (.slice none 0 0) := br_3.cell5
  go_upto_region 1 with fail
  go_cut [5, 6] (fun sx sy wy => ∃ (Wqx : World) (gqx gqy : Nat) (qxu qyu : Rv), Wqx = wy ∧ sx = .pointer (some ⟨gqx, 0, none⟩) ∧ sy = .pointer (some ⟨gqy, 0, none⟩) ∧ Sq Wqx gqx (.bool qxu.s) (.slice qxu.A qxu.n qxu.c) (.slice qxu.B qxu.m qxu.d) ∧ Sq Wqx gqy (.bool qyu.s) (.slice qyu.A qyu.n qyu.c) (.slice qyu.B qyu.m qyu.d) ∧ w.heap.size ≠ gqx ∧ w.heap.size ≠ gqy ∧ w.heap.size + 1 ≠ gqx ∧ w.heap.size + 1 ≠ gqy ∧ w.heap.size + 2 ≠ gqx ∧ w.heap.size + 2 ≠ gqy ∧ Sv Wqx (w.heap.size) a c ∧ Su Wqx (w.heap.size + 1) x ∧ Sv Wqx (w.heap.size + 2) Rv.zero Rv.zero ∧ Iu Wqx a p ∧ Iu Wqx c q ∧ Iu Wqx x z ∧ Cu Wqx qxu (p * z) ∧ Cu Wqx qyu (q * z) ∧ Below w.heap.size w Wqx)
  case first =>
    have ltq_bx := bx_3.lt
    simp only [World.size_alloc] at ltq_bx
    have ltq_by := by_3.lt
    simp only [World.size_alloc] at ltq_by
    have ltq_br := br_3.lt
    simp only [World.size_alloc] at ltq_br
    have glq := F3.size
    simp only [World.size_alloc] at glq
    have le2_ : w.heap.size ≠ w.heap.size + 1 + 1 := by omega
    have lf2_ := Ne.symm le2_
    have le3_ : w.heap.size ≠ w.heap.size + 1 + 1 + 1 := by omega
    have lf3_ := Ne.symm le3_
    have le4_ : w.heap.size ≠ w.heap.size + 1 + 1 + 1 + 1 := by omega
    have lf4_ := Ne.symm le4_
    have lq0_bx : w.heap.size ≠ w.heap.size + 1 + 1 + 1 := by omega
    have lr0_bx := Ne.symm lq0_bx
    have lq1_bx : w.heap.size ≠ w.heap.size + 1 + 1 + 1 + 1 := by omega
    have lr1_bx := Ne.symm lq1_bx
    have lq0_by : w.heap.size + 1 ≠ w.heap.size + 1 + 1 + 1 := by omega
    have lr0_by := Ne.symm lq0_by
    have lq1_by : w.heap.size + 1 ≠ w.heap.size + 1 + 1 + 1 + 1 := by omega
    have lr1_by := Ne.symm lq1_by
    have lq0_br : w.heap.size + 2 ≠ w.heap.size + 1 + 1 + 1 := by omega
    have lr0_br := Ne.symm lq0_br
    have lq1_br : w.heap.size + 2 ≠ w.heap.size + 1 + 1 + 1 + 1 := by omega
    have lr1_br := Ne.symm lq1_br
    have ls0_br : w.heap.size + 1 + 1 ≠ w.heap.size + 1 + 1 + 1 := by omega
    have lt0_br := Ne.symm ls0_br
    have ls1_br : w.heap.size + 1 + 1 ≠ w.heap.size + 1 + 1 + 1 + 1 := by omega
    have lt1_br := Ne.symm ls1_br
    have ha_4 := ha_3.drew
    have hc_4 := hc_3.drew
    have hx_4 := hx_3.drew
    have bx_4 := bx_3.drew
    have by_4 := by_3.drew
    have br_4 := br_3.drew
    have F4 := F3.drew
    have ha_y1 := ha_3.alloc EQ0
    have hc_y1 := hc_3.alloc EQ0
    have hx_y1 := hx_3.alloc EQ0
    have bx_y1 := bx_3.alloc EQ0
    have by_y1 := by_3.alloc EQ0
    have br_y1 := br_3.alloc EQ0
    have zq1 : Sq (((((w).alloc (EV a c)).alloc (EU x)).alloc EV0).alloc EQ0) (w.heap.size + 3) (.bool false) (.slice none 0 0) (.slice none 0 0) := by have h_ := Sq.new ((((w).alloc (EV a c)).alloc (EU x)).alloc EV0) (.bool false) (.slice none 0 0) (.slice none 0 0); simp only [World.size_alloc] at h_; exact h_
    have F_y1 := F3.alloc F3.size EQ0
    have ha_d1 := ha_y1.drew
    have hc_d1 := hc_y1.drew
    have hx_d1 := hx_y1.drew
    have bx_d1 := bx_y1.drew
    have by_d1 := by_y1.drew
    have br_d1 := br_y1.drew
    have z1_d1 := zq1.drew
    have F_d1 := F_y1.drew
    have ha_y2 := ha_y1.alloc EQ0
    have hc_y2 := hc_y1.alloc EQ0
    have hx_y2 := hx_y1.alloc EQ0
    have bx_y2 := bx_y1.alloc EQ0
    have by_y2 := by_y1.alloc EQ0
    have br_y2 := br_y1.alloc EQ0
    have zq12 := zq1.alloc EQ0
    have zq2 : Sq ((((((w).alloc (EV a c)).alloc (EU x)).alloc EV0).alloc EQ0).alloc EQ0) (w.heap.size + 4) (.bool false) (.slice none 0 0) (.slice none 0 0) := by have h_ := Sq.new (((((w).alloc (EV a c)).alloc (EU x)).alloc EV0).alloc EQ0) (.bool false) (.slice none 0 0) (.slice none 0 0); simp only [World.size_alloc] at h_; exact h_
    have F_y2 := F_y1.alloc F_y1.size EQ0
    have ha_d2 := ha_y2.drew
    have hc_d2 := hc_y2.drew
    have hx_d2 := hx_y2.drew
    have bx_d2 := bx_y2.drew
    have by_d2 := by_y2.drew
    have br_d2 := br_y2.drew
    have z1_d2 := zq12.drew
    have z2_d2 := zq2.drew
    have F_d2 := F_y2.drew
    have lz1_bx : w.heap.size ≠ w.heap.size + 3 := by omega
    have ly1_bx := Ne.symm lz1_bx
    have lz1_by : w.heap.size + 1 ≠ w.heap.size + 3 := by omega
    have ly1_by := Ne.symm lz1_by
    have lz1_br : w.heap.size + 2 ≠ w.heap.size + 3 := by omega
    have ly1_br := Ne.symm lz1_br
    have lz2_bx : w.heap.size ≠ w.heap.size + 4 := by omega
    have ly2_bx := Ne.symm lz2_bx
    have lz2_by : w.heap.size + 1 ≠ w.heap.size + 4 := by omega
    have ly2_by := Ne.symm lz2_by
    have lz2_br : w.heap.size + 2 ≠ w.heap.size + 4 := by omega
    have ly2_br := Ne.symm lz2_br
    have gl1 : w.heap.size ≤ w.heap.size + 3 := by omega
    have gl2 : w.heap.size ≤ w.heap.size + 4 := by omega
    have lzz1_2 : w.heap.size + 3 ≠ w.heap.size + 4 := by omega
    have lyy1_2 := Ne.symm lzz1_2
    go_region_held3 (fun w' => w'.cell? ⟨w.heap.size, 0, none⟩ = some (.bool a.s) ∧ w'.cell? ⟨w.heap.size, 1, none⟩ = some (.slice a.A a.n a.c) ∧ w'.cell? ⟨w.heap.size, 2, none⟩ = some (.slice a.B a.m a.d) ∧ w'.cell? ⟨w.heap.size, 3, none⟩ = some (.bool c.s) ∧ w'.cell? ⟨w.heap.size, 4, none⟩ = some (.slice c.A c.n c.c) ∧ w'.cell? ⟨w.heap.size, 5, none⟩ = some (.slice c.B c.m c.d) ∧ w'.cell? ⟨w.heap.size + 1, 0, none⟩ = some (.bool x.s) ∧ w'.cell? ⟨w.heap.size + 1, 1, none⟩ = some (.slice x.A x.n x.c) ∧ w'.cell? ⟨w.heap.size + 1, 2, none⟩ = some (.slice x.B x.m x.d))
      (first
        | with_reducible exact ⟨((bx_6.alloc EQ0).alloc EQ0).cell0, ((bx_6.alloc EQ0).alloc EQ0).cell1, ((bx_6.alloc EQ0).alloc EQ0).cell2, ((bx_6.alloc EQ0).alloc EQ0).cell3, ((bx_6.alloc EQ0).alloc EQ0).cell4, ((bx_6.alloc EQ0).alloc EQ0).cell5, ((by_6.alloc EQ0).alloc EQ0).cell0, ((by_6.alloc EQ0).alloc EQ0).cell1, ((by_6.alloc EQ0).alloc EQ0).cell2⟩
        | with_reducible exact ⟨(bx_6.alloc EQ0).cell0, (bx_6.alloc EQ0).cell1, (bx_6.alloc EQ0).cell2, (bx_6.alloc EQ0).cell3, (bx_6.alloc EQ0).cell4, (bx_6.alloc EQ0).cell5, (by_6.alloc EQ0).cell0, (by_6.alloc EQ0).cell1, (by_6.alloc EQ0).cell2⟩
        | with_reducible exact ⟨bx_6.cell0, bx_6.cell1, bx_6.cell2, bx_6.cell3, bx_6.cell4, bx_6.cell5, by_6.cell0, by_6.cell1, by_6.cell2⟩
        | with_reducible exact ⟨((bx_5.alloc EQ0).alloc EQ0).cell0, ((bx_5.alloc EQ0).alloc EQ0).cell1, ((bx_5.alloc EQ0).alloc EQ0).cell2, ((bx_5.alloc EQ0).alloc EQ0).cell3, ((bx_5.alloc EQ0).alloc EQ0).cell4, ((bx_5.alloc EQ0).alloc EQ0).cell5, ((by_5.alloc EQ0).alloc EQ0).cell0, ((by_5.alloc EQ0).alloc EQ0).cell1, ((by_5.alloc EQ0).alloc EQ0).cell2⟩
        | with_reducible exact ⟨(bx_5.alloc EQ0).cell0, (bx_5.alloc EQ0).cell1, (bx_5.alloc EQ0).cell2, (bx_5.alloc EQ0).cell3, (bx_5.alloc EQ0).cell4, (bx_5.alloc EQ0).cell5, (by_5.alloc EQ0).cell0, (by_5.alloc EQ0).cell1, (by_5.alloc EQ0).cell2⟩
        | with_reducible exact ⟨bx_5.cell0, bx_5.cell1, bx_5.cell2, bx_5.cell3, bx_5.cell4, bx_5.cell5, by_5.cell0, by_5.cell1, by_5.cell2⟩
        | with_reducible exact ⟨bx_d2.cell0, bx_d2.cell1, bx_d2.cell2, bx_d2.cell3, bx_d2.cell4, bx_d2.cell5, by_d2.cell0, by_d2.cell1, by_d2.cell2⟩
        | with_reducible exact ⟨bx_d1.cell0, bx_d1.cell1, bx_d1.cell2, bx_d1.cell3, bx_d1.cell4, bx_d1.cell5, by_d1.cell0, by_d1.cell1, by_d1.cell2⟩
        | with_reducible exact ⟨bx_4.cell0, bx_4.cell1, bx_4.cell2, bx_4.cell3, bx_4.cell4, bx_4.cell5, by_4.cell0, by_4.cell1, by_4.cell2⟩
        | go_keep
        | fail)
      (first
        | (go_at_call 28; (with_reducible refine (mul_u _ _ p z (p * z) _ rfl ha_4 hx_4 la lx).mono ?_); rintro e w5 ⟨u5, rfl, rx, b5⟩; have ha_5 := ha_4.below b5; have hc_5 := hc_4.below b5; have hx_5 := hx_4.below b5; have bx_5 := bx_4.below b5 bx_4.lt; have by_5 := by_4.below b5 by_4.lt; have br_5 := br_4.below b5 br_4.lt; have F5 := below_then F4 (Nat.le_refl _) b5)
        | (go_at_call 28; (with_reducible refine (mul_u _ _ p z (p * z) _ rfl ha_d1 hx_d1 la lx).mono ?_); rintro e w5 ⟨u5, rfl, rx, b5⟩; have ha_5 := ha_d1.below b5; have hc_5 := hc_d1.below b5; have hx_5 := hx_d1.below b5; have bx_5 := bx_d1.below b5 bx_d1.lt; have by_5 := by_d1.below b5 by_d1.lt; have br_5 := br_d1.below b5 br_d1.lt; have z1_5 := z1_d1.below b5 z1_d1.lt; have F5 := below_then F_d1 (Nat.le_refl _) b5)
        | (go_at_call 28; (with_reducible refine (mul_u _ _ p z (p * z) _ rfl ha_d2 hx_d2 la lx).mono ?_); rintro e w5 ⟨u5, rfl, rx, b5⟩; have ha_5 := ha_d2.below b5; have hc_5 := hc_d2.below b5; have hx_5 := hx_d2.below b5; have bx_5 := bx_d2.below b5 bx_d2.lt; have by_5 := by_d2.below b5 by_d2.lt; have br_5 := br_d2.below b5 br_d2.lt; have z1_5 := z1_d2.below b5 z1_d2.lt; have z2_5 := z2_d2.below b5 z2_d2.lt; have F5 := below_then F_d2 (Nat.le_refl _) b5)
        | (go_at_call 28; (with_reducible refine (mul_u _ _ q z (q * z) _ rfl hc_5 hx_5 lc lx).mono ?_); rintro e w6 ⟨u6, rfl, ry, b6⟩; have ha_6 := ha_5.below b6; have hc_6 := hc_5.below b6; have hx_6 := hx_5.below b6; have rx_6 := rx.below b6; have bx_6 := bx_5.below b6 bx_5.lt; have by_6 := by_5.below b6 by_5.lt; have br_6 := br_5.below b6 br_5.lt; have z1_6 := z1_5.below b6 z1_5.lt; have z2_6 := z2_5.below b6 z2_5.lt; have zk0_0 := z1_6.cell0; have zf0_0 := z1_6.frozen 0; have zk0_1 := z1_6.cell1; have zf0_1 := z1_6.frozen 1; have zk0_2 := z1_6.cell2; have zf0_2 := z1_6.frozen 2; have zk1_0 := z2_6.cell0; have zf1_0 := z2_6.frozen 0; have zk1_1 := z2_6.cell1; have zf1_1 := z2_6.frozen 1; have zk1_2 := z2_6.cell2; have zf1_2 := z2_6.frozen 2; have F6 := below_then F5 (Nat.le_refl _) b6; have kl_bx := bx_6.lt; have km_bx := Nat.ne_of_lt bx_6.lt; have kn_bx := Nat.ne_of_gt bx_6.lt; have kc_bx0 := bx_6.cell0; have kc_bx1 := bx_6.cell1; have kc_bx2 := bx_6.cell2; have kc_bx3 := bx_6.cell3; have kc_bx4 := bx_6.cell4; have kc_bx5 := bx_6.cell5; have kl_by := by_6.lt; have km_by := Nat.ne_of_lt by_6.lt; have kn_by := Nat.ne_of_gt by_6.lt; have kc_by0 := by_6.cell0; have kc_by1 := by_6.cell1; have kc_by2 := by_6.cell2; have kl_br := br_6.lt; have km_br := Nat.ne_of_lt br_6.lt; have kn_br := Nat.ne_of_gt br_6.lt; have kc_br0 := br_6.cell0; have kc_br1 := br_6.cell1; have kc_br2 := br_6.cell2; have kc_br3 := br_6.cell3; have kc_br4 := br_6.cell4; have kc_br5 := br_6.cell5; have kl0 := z1_6.lt; have km0 := Nat.ne_of_lt z1_6.lt; have kn0 := Nat.ne_of_gt z1_6.lt; have kl1 := z2_6.lt; have km1 := Nat.ne_of_lt z2_6.lt; have kn1 := Nat.ne_of_gt z2_6.lt)
        | (go_at_call 28; (with_reducible refine (mul_u _ _ q z (q * z) _ rfl hc_5 hx_5 lc lx).mono ?_); rintro e w6 ⟨u6, rfl, ry, b6⟩; have ha_6 := ha_5.below b6; have hc_6 := hc_5.below b6; have hx_6 := hx_5.below b6; have rx_6 := rx.below b6; have bx_6 := bx_5.below b6 bx_5.lt; have by_6 := by_5.below b6 by_5.lt; have br_6 := br_5.below b6 br_5.lt; have z1_6 := z1_5.below b6 z1_5.lt; have zk0_0 := z1_6.cell0; have zf0_0 := z1_6.frozen 0; have zk0_1 := z1_6.cell1; have zf0_1 := z1_6.frozen 1; have zk0_2 := z1_6.cell2; have zf0_2 := z1_6.frozen 2; have F6 := below_then F5 (Nat.le_refl _) b6; have kl_bx := bx_6.lt; have km_bx := Nat.ne_of_lt bx_6.lt; have kn_bx := Nat.ne_of_gt bx_6.lt; have kc_bx0 := bx_6.cell0; have kc_bx1 := bx_6.cell1; have kc_bx2 := bx_6.cell2; have kc_bx3 := bx_6.cell3; have kc_bx4 := bx_6.cell4; have kc_bx5 := bx_6.cell5; have kl_by := by_6.lt; have km_by := Nat.ne_of_lt by_6.lt; have kn_by := Nat.ne_of_gt by_6.lt; have kc_by0 := by_6.cell0; have kc_by1 := by_6.cell1; have kc_by2 := by_6.cell2; have kl_br := br_6.lt; have km_br := Nat.ne_of_lt br_6.lt; have kn_br := Nat.ne_of_gt br_6.lt; have kc_br0 := br_6.cell0; have kc_br1 := br_6.cell1; have kc_br2 := br_6.cell2; have kc_br3 := br_6.cell3; have kc_br4 := br_6.cell4; have kc_br5 := br_6.cell5; have kl0 := z1_6.lt; have km0 := Nat.ne_of_lt z1_6.lt; have kn0 := Nat.ne_of_gt z1_6.lt)
        | (have qx_bx := bx_5.lt; have qx_by := by_5.lt; have qx_br := br_5.lt; have qz_z1_5 := z1_5.lt; have lz2_bx : w.heap.size ≠ w5.heap.size := (by omega); have ly2_bx := Ne.symm lz2_bx; have lz2_by : w.heap.size + 1 ≠ w5.heap.size := (by omega); have ly2_by := Ne.symm lz2_by; have lz2_br : w.heap.size + 2 ≠ w5.heap.size := (by omega); have ly2_br := Ne.symm lz2_br; have gl2 : w.heap.size ≤ w5.heap.size := (by have := F5.size; omega); have lzz1_2 := Nat.ne_of_lt (Nat.lt_of_lt_of_le qz_z1_5 (show w5.heap.size ≤ w5.heap.size by omega)); have lyy1_2 := Ne.symm lzz1_2; have ha_5a := ha_5.alloc EQ0; have hc_5a := hc_5.alloc EQ0; have hx_5a := hx_5.alloc EQ0; have rx_5a := rx.alloc EQ0; have bx_5a := bx_5.alloc EQ0; have by_5a := by_5.alloc EQ0; have br_5a := br_5.alloc EQ0; have z1_5a := z1_5.alloc EQ0; have z2_5a : Sq ((w5).alloc EQ0) (w5.heap.size) (.bool false) (.slice none 0 0) (.slice none 0 0) := (by (have h_ := Sq.new (w5) (.bool false) (.slice none 0 0) (.slice none 0 0); exact h_)); have F_5a := F5.alloc F5.size EQ0; go_at_call 28; (with_reducible refine (mul_u _ _ q z (q * z) _ rfl hc_5a hx_5a lc lx).mono ?_); rintro e w6 ⟨u6, rfl, ry, b6⟩; have ha_6 := ha_5a.below b6; have hc_6 := hc_5a.below b6; have hx_6 := hx_5a.below b6; have rx_6 := rx_5a.below b6; have bx_6 := bx_5a.below b6 bx_5a.lt; have by_6 := by_5a.below b6 by_5a.lt; have br_6 := br_5a.below b6 br_5a.lt; have z1_6 := z1_5a.below b6 z1_5a.lt; have z2_6 := z2_5a.below b6 z2_5a.lt; have zk0_0 := z1_6.cell0; have zf0_0 := z1_6.frozen 0; have zk0_1 := z1_6.cell1; have zf0_1 := z1_6.frozen 1; have zk0_2 := z1_6.cell2; have zf0_2 := z1_6.frozen 2; have zk1_0 := z2_6.cell0; have zf1_0 := z2_6.frozen 0; have zk1_1 := z2_6.cell1; have zf1_1 := z2_6.frozen 1; have zk1_2 := z2_6.cell2; have zf1_2 := z2_6.frozen 2; have F6 := below_then F_5a (Nat.le_refl _) b6; have kl_bx := bx_6.lt; have km_bx := Nat.ne_of_lt bx_6.lt; have kn_bx := Nat.ne_of_gt bx_6.lt; have kc_bx0 := bx_6.cell0; have kc_bx1 := bx_6.cell1; have kc_bx2 := bx_6.cell2; have kc_bx3 := bx_6.cell3; have kc_bx4 := bx_6.cell4; have kc_bx5 := bx_6.cell5; have kl_by := by_6.lt; have km_by := Nat.ne_of_lt by_6.lt; have kn_by := Nat.ne_of_gt by_6.lt; have kc_by0 := by_6.cell0; have kc_by1 := by_6.cell1; have kc_by2 := by_6.cell2; have kl_br := br_6.lt; have km_br := Nat.ne_of_lt br_6.lt; have kn_br := Nat.ne_of_gt br_6.lt; have kc_br0 := br_6.cell0; have kc_br1 := br_6.cell1; have kc_br2 := br_6.cell2; have kc_br3 := br_6.cell3; have kc_br4 := br_6.cell4; have kc_br5 := br_6.cell5; have kl0 := z1_6.lt; have km0 := Nat.ne_of_lt z1_6.lt; have kn0 := Nat.ne_of_gt z1_6.lt; have kl1 := z2_6.lt; have km1 := Nat.ne_of_lt z2_6.lt; have kn1 := Nat.ne_of_gt z2_6.lt)
        | (go_at_call 28; (with_reducible refine (mul_u _ _ q z (q * z) _ rfl hc_5 hx_5 lc lx).mono ?_); rintro e w6 ⟨u6, rfl, ry, b6⟩; have ha_6 := ha_5.below b6; have hc_6 := hc_5.below b6; have hx_6 := hx_5.below b6; have rx_6 := rx.below b6; have bx_6 := bx_5.below b6 bx_5.lt; have by_6 := by_5.below b6 by_5.lt; have br_6 := br_5.below b6 br_5.lt; have F6 := below_then F5 (Nat.le_refl _) b6; have kl_bx := bx_6.lt; have km_bx := Nat.ne_of_lt bx_6.lt; have kn_bx := Nat.ne_of_gt bx_6.lt; have kc_bx0 := bx_6.cell0; have kc_bx1 := bx_6.cell1; have kc_bx2 := bx_6.cell2; have kc_bx3 := bx_6.cell3; have kc_bx4 := bx_6.cell4; have kc_bx5 := bx_6.cell5; have kl_by := by_6.lt; have km_by := Nat.ne_of_lt by_6.lt; have kn_by := Nat.ne_of_gt by_6.lt; have kc_by0 := by_6.cell0; have kc_by1 := by_6.cell1; have kc_by2 := by_6.cell2; have kl_br := br_6.lt; have km_br := Nat.ne_of_lt br_6.lt; have kn_br := Nat.ne_of_gt br_6.lt; have kc_br0 := br_6.cell0; have kc_br1 := br_6.cell1; have kc_br2 := br_6.cell2; have kc_br3 := br_6.cell3; have kc_br4 := br_6.cell4; have kc_br5 := br_6.cell5)
        | (have qx_bx := bx_5.lt; have qx_by := by_5.lt; have qx_br := br_5.lt; have lz1_bx : w.heap.size ≠ w5.heap.size := (by omega); have ly1_bx := Ne.symm lz1_bx; have lz1_by : w.heap.size + 1 ≠ w5.heap.size := (by omega); have ly1_by := Ne.symm lz1_by; have lz1_br : w.heap.size + 2 ≠ w5.heap.size := (by omega); have ly1_br := Ne.symm lz1_br; have gl1 : w.heap.size ≤ w5.heap.size := (by have := F5.size; omega); have ha_5a := ha_5.alloc EQ0; have hc_5a := hc_5.alloc EQ0; have hx_5a := hx_5.alloc EQ0; have rx_5a := rx.alloc EQ0; have bx_5a := bx_5.alloc EQ0; have by_5a := by_5.alloc EQ0; have br_5a := br_5.alloc EQ0; have z1_5a : Sq ((w5).alloc EQ0) (w5.heap.size) (.bool false) (.slice none 0 0) (.slice none 0 0) := (by (have h_ := Sq.new (w5) (.bool false) (.slice none 0 0) (.slice none 0 0); exact h_)); have F_5a := F5.alloc F5.size EQ0; go_at_call 28; (with_reducible refine (mul_u _ _ q z (q * z) _ rfl hc_5a hx_5a lc lx).mono ?_); rintro e w6 ⟨u6, rfl, ry, b6⟩; have ha_6 := ha_5a.below b6; have hc_6 := hc_5a.below b6; have hx_6 := hx_5a.below b6; have rx_6 := rx_5a.below b6; have bx_6 := bx_5a.below b6 bx_5a.lt; have by_6 := by_5a.below b6 by_5a.lt; have br_6 := br_5a.below b6 br_5a.lt; have z1_6 := z1_5a.below b6 z1_5a.lt; have zk0_0 := z1_6.cell0; have zf0_0 := z1_6.frozen 0; have zk0_1 := z1_6.cell1; have zf0_1 := z1_6.frozen 1; have zk0_2 := z1_6.cell2; have zf0_2 := z1_6.frozen 2; have F6 := below_then F_5a (Nat.le_refl _) b6; have kl_bx := bx_6.lt; have km_bx := Nat.ne_of_lt bx_6.lt; have kn_bx := Nat.ne_of_gt bx_6.lt; have kc_bx0 := bx_6.cell0; have kc_bx1 := bx_6.cell1; have kc_bx2 := bx_6.cell2; have kc_bx3 := bx_6.cell3; have kc_bx4 := bx_6.cell4; have kc_bx5 := bx_6.cell5; have kl_by := by_6.lt; have km_by := Nat.ne_of_lt by_6.lt; have kn_by := Nat.ne_of_gt by_6.lt; have kc_by0 := by_6.cell0; have kc_by1 := by_6.cell1; have kc_by2 := by_6.cell2; have kl_br := br_6.lt; have km_br := Nat.ne_of_lt br_6.lt; have kn_br := Nat.ne_of_gt br_6.lt; have kc_br0 := br_6.cell0; have kc_br1 := br_6.cell1; have kc_br2 := br_6.cell2; have kc_br3 := br_6.cell3; have kc_br4 := br_6.cell4; have kc_br5 := br_6.cell5; have kl0 := z1_6.lt; have km0 := Nat.ne_of_lt z1_6.lt; have kn0 := Nat.ne_of_gt z1_6.lt)
        | (have qx_bx := bx_5.lt; have qx_by := by_5.lt; have qx_br := br_5.lt; have lz1_bx : w.heap.size ≠ w5.heap.size := (by omega); have ly1_bx := Ne.symm lz1_bx; have lz1_by : w.heap.size + 1 ≠ w5.heap.size := (by omega); have ly1_by := Ne.symm lz1_by; have lz1_br : w.heap.size + 2 ≠ w5.heap.size := (by omega); have ly1_br := Ne.symm lz1_br; have gl1 : w.heap.size ≤ w5.heap.size := (by have := F5.size; omega); have ha_5a := ha_5.alloc EQ0; have hc_5a := hc_5.alloc EQ0; have hx_5a := hx_5.alloc EQ0; have rx_5a := rx.alloc EQ0; have bx_5a := bx_5.alloc EQ0; have by_5a := by_5.alloc EQ0; have br_5a := br_5.alloc EQ0; have z1_5a : Sq ((w5).alloc EQ0) (w5.heap.size) (.bool false) (.slice none 0 0) (.slice none 0 0) := (by (have h_ := Sq.new (w5) (.bool false) (.slice none 0 0) (.slice none 0 0); exact h_)); have F_5a := F5.alloc F5.size EQ0; have lz2_bx : w.heap.size ≠ w5.heap.size + 1 := (by omega); have ly2_bx := Ne.symm lz2_bx; have lz2_by : w.heap.size + 1 ≠ w5.heap.size + 1 := (by omega); have ly2_by := Ne.symm lz2_by; have lz2_br : w.heap.size + 2 ≠ w5.heap.size + 1 := (by omega); have ly2_br := Ne.symm lz2_br; have gl2 : w.heap.size ≤ w5.heap.size + 1 := (by have := F5.size; omega); have lzz1_2 : w5.heap.size ≠ w5.heap.size + 1 := (by omega); have lyy1_2 := Ne.symm lzz1_2; have ha_5b := ha_5a.alloc EQ0; have hc_5b := hc_5a.alloc EQ0; have hx_5b := hx_5a.alloc EQ0; have rx_5b := rx_5a.alloc EQ0; have bx_5b := bx_5a.alloc EQ0; have by_5b := by_5a.alloc EQ0; have br_5b := br_5a.alloc EQ0; have z1_5b := z1_5a.alloc EQ0; have z2_5b : Sq (((w5).alloc EQ0).alloc EQ0) (w5.heap.size + 1) (.bool false) (.slice none 0 0) (.slice none 0 0) := (by (have h_ := Sq.new ((w5).alloc EQ0) (.bool false) (.slice none 0 0) (.slice none 0 0); simp only [World.size_alloc] at h_; exact h_)); have F_5b := F_5a.alloc F_5a.size EQ0; go_at_call 28; (with_reducible refine (mul_u _ _ q z (q * z) _ rfl hc_5b hx_5b lc lx).mono ?_); rintro e w6 ⟨u6, rfl, ry, b6⟩; have ha_6 := ha_5b.below b6; have hc_6 := hc_5b.below b6; have hx_6 := hx_5b.below b6; have rx_6 := rx_5b.below b6; have bx_6 := bx_5b.below b6 bx_5b.lt; have by_6 := by_5b.below b6 by_5b.lt; have br_6 := br_5b.below b6 br_5b.lt; have z1_6 := z1_5b.below b6 z1_5b.lt; have z2_6 := z2_5b.below b6 z2_5b.lt; have zk0_0 := z1_6.cell0; have zf0_0 := z1_6.frozen 0; have zk0_1 := z1_6.cell1; have zf0_1 := z1_6.frozen 1; have zk0_2 := z1_6.cell2; have zf0_2 := z1_6.frozen 2; have zk1_0 := z2_6.cell0; have zf1_0 := z2_6.frozen 0; have zk1_1 := z2_6.cell1; have zf1_1 := z2_6.frozen 1; have zk1_2 := z2_6.cell2; have zf1_2 := z2_6.frozen 2; have F6 := below_then F_5b (Nat.le_refl _) b6; have kl_bx := bx_6.lt; have km_bx := Nat.ne_of_lt bx_6.lt; have kn_bx := Nat.ne_of_gt bx_6.lt; have kc_bx0 := bx_6.cell0; have kc_bx1 := bx_6.cell1; have kc_bx2 := bx_6.cell2; have kc_bx3 := bx_6.cell3; have kc_bx4 := bx_6.cell4; have kc_bx5 := bx_6.cell5; have kl_by := by_6.lt; have km_by := Nat.ne_of_lt by_6.lt; have kn_by := Nat.ne_of_gt by_6.lt; have kc_by0 := by_6.cell0; have kc_by1 := by_6.cell1; have kc_by2 := by_6.cell2; have kl_br := br_6.lt; have km_br := Nat.ne_of_lt br_6.lt; have kn_br := Nat.ne_of_gt br_6.lt; have kc_br0 := br_6.cell0; have kc_br1 := br_6.cell1; have kc_br2 := br_6.cell2; have kc_br3 := br_6.cell3; have kc_br4 := br_6.cell4; have kc_br5 := br_6.cell5; have kl0 := z1_6.lt; have km0 := Nat.ne_of_lt z1_6.lt; have kn0 := Nat.ne_of_gt z1_6.lt; have kl1 := z2_6.lt; have km1 := Nat.ne_of_lt z2_6.lt; have kn1 := Nat.ne_of_gt z2_6.lt)
        | fail)
    all_goals (go_wp2_with fail; go_meet; first | with_reducible exact ⟨_, _, _, u5, u6, rfl, rfl, rfl, z1_6.stor.past lzz1_2, (z2_6.past lyy1_2).stor, (by first | exact lz1_bx | exact lz2_bx | (have h9_ := bx_6.lt; omega)), (by first | exact lz1_bx | exact lz2_bx | (have h9_ := bx_6.lt; omega)), (by first | exact lz1_by | exact lz2_by | (have h9_ := by_6.lt; omega)), (by first | exact lz1_by | exact lz2_by | (have h9_ := by_6.lt; omega)), (by first | exact lz1_br | exact lz2_br | (have h9_ := br_6.lt; omega)), (by first | exact lz1_br | exact lz2_br | (have h9_ := br_6.lt; omega)), (bx_6.past3 lz1_bx).past3 lz2_bx, (by_6.past3 lz1_by).past3 lz2_by, (br_6.past3 lz1_br).past3 lz2_br, (ha_6.storQ z1_6 (.bool u5.s) (.slice u5.A u5.n u5.c) (.slice u5.B u5.m u5.d)).storQ (z2_6.past lyy1_2) (.bool u6.s) (.slice u6.A u6.n u6.c) (.slice u6.B u6.m u6.d), (hc_6.storQ z1_6 (.bool u5.s) (.slice u5.A u5.n u5.c) (.slice u5.B u5.m u5.d)).storQ (z2_6.past lyy1_2) (.bool u6.s) (.slice u6.A u6.n u6.c) (.slice u6.B u6.m u6.d), (hx_6.storQ z1_6 (.bool u5.s) (.slice u5.A u5.n u5.c) (.slice u5.B u5.m u5.d)).storQ (z2_6.past lyy1_2) (.bool u6.s) (.slice u6.A u6.n u6.c) (.slice u6.B u6.m u6.d), (rx_6.storQ z1_6 (.bool u5.s) (.slice u5.A u5.n u5.c) (.slice u5.B u5.m u5.d)).storQ (z2_6.past lyy1_2) (.bool u6.s) (.slice u6.A u6.n u6.c) (.slice u6.B u6.m u6.d), (ry.storQ z1_6 (.bool u5.s) (.slice u5.A u5.n u5.c) (.slice u5.B u5.m u5.d)).storQ (z2_6.past lyy1_2) (.bool u6.s) (.slice u6.A u6.n u6.c) (.slice u6.B u6.m u6.d), below_storQ (below_storQ F6 gl1) gl2⟩ | with_reducible exact ⟨_, _, _, u5, u6, rfl, rfl, rfl, (z1_6.past lzz1_2).stor, z2_6.stor.past lyy1_2, (by first | exact lz1_bx | exact lz2_bx | (have h9_ := bx_6.lt; omega)), (by first | exact lz1_bx | exact lz2_bx | (have h9_ := bx_6.lt; omega)), (by first | exact lz1_by | exact lz2_by | (have h9_ := by_6.lt; omega)), (by first | exact lz1_by | exact lz2_by | (have h9_ := by_6.lt; omega)), (by first | exact lz1_br | exact lz2_br | (have h9_ := br_6.lt; omega)), (by first | exact lz1_br | exact lz2_br | (have h9_ := br_6.lt; omega)), (bx_6.past3 lz2_bx).past3 lz1_bx, (by_6.past3 lz2_by).past3 lz1_by, (br_6.past3 lz2_br).past3 lz1_br, (ha_6.storQ z2_6 (.bool u6.s) (.slice u6.A u6.n u6.c) (.slice u6.B u6.m u6.d)).storQ (z1_6.past lzz1_2) (.bool u5.s) (.slice u5.A u5.n u5.c) (.slice u5.B u5.m u5.d), (hc_6.storQ z2_6 (.bool u6.s) (.slice u6.A u6.n u6.c) (.slice u6.B u6.m u6.d)).storQ (z1_6.past lzz1_2) (.bool u5.s) (.slice u5.A u5.n u5.c) (.slice u5.B u5.m u5.d), (hx_6.storQ z2_6 (.bool u6.s) (.slice u6.A u6.n u6.c) (.slice u6.B u6.m u6.d)).storQ (z1_6.past lzz1_2) (.bool u5.s) (.slice u5.A u5.n u5.c) (.slice u5.B u5.m u5.d), (rx_6.storQ z2_6 (.bool u6.s) (.slice u6.A u6.n u6.c) (.slice u6.B u6.m u6.d)).storQ (z1_6.past lzz1_2) (.bool u5.s) (.slice u5.A u5.n u5.c) (.slice u5.B u5.m u5.d), (ry.storQ z2_6 (.bool u6.s) (.slice u6.A u6.n u6.c) (.slice u6.B u6.m u6.d)).storQ (z1_6.past lzz1_2) (.bool u5.s) (.slice u5.A u5.n u5.c) (.slice u5.B u5.m u5.d), below_storQ (below_storQ F6 gl2) gl1⟩ | with_reducible exact ⟨_, _, _, u5, u6, rfl, rfl, rfl, z2_6.stor.past lyy1_2, (z1_6.past lzz1_2).stor, (by first | exact lz1_bx | exact lz2_bx | (have h9_ := bx_6.lt; omega)), (by first | exact lz1_bx | exact lz2_bx | (have h9_ := bx_6.lt; omega)), (by first | exact lz1_by | exact lz2_by | (have h9_ := by_6.lt; omega)), (by first | exact lz1_by | exact lz2_by | (have h9_ := by_6.lt; omega)), (by first | exact lz1_br | exact lz2_br | (have h9_ := br_6.lt; omega)), (by first | exact lz1_br | exact lz2_br | (have h9_ := br_6.lt; omega)), (bx_6.past3 lz2_bx).past3 lz1_bx, (by_6.past3 lz2_by).past3 lz1_by, (br_6.past3 lz2_br).past3 lz1_br, (ha_6.storQ z2_6 (.bool u5.s) (.slice u5.A u5.n u5.c) (.slice u5.B u5.m u5.d)).storQ (z1_6.past lzz1_2) (.bool u6.s) (.slice u6.A u6.n u6.c) (.slice u6.B u6.m u6.d), (hc_6.storQ z2_6 (.bool u5.s) (.slice u5.A u5.n u5.c) (.slice u5.B u5.m u5.d)).storQ (z1_6.past lzz1_2) (.bool u6.s) (.slice u6.A u6.n u6.c) (.slice u6.B u6.m u6.d), (hx_6.storQ z2_6 (.bool u5.s) (.slice u5.A u5.n u5.c) (.slice u5.B u5.m u5.d)).storQ (z1_6.past lzz1_2) (.bool u6.s) (.slice u6.A u6.n u6.c) (.slice u6.B u6.m u6.d), (rx_6.storQ z2_6 (.bool u5.s) (.slice u5.A u5.n u5.c) (.slice u5.B u5.m u5.d)).storQ (z1_6.past lzz1_2) (.bool u6.s) (.slice u6.A u6.n u6.c) (.slice u6.B u6.m u6.d), (ry.storQ z2_6 (.bool u5.s) (.slice u5.A u5.n u5.c) (.slice u5.B u5.m u5.d)).storQ (z1_6.past lzz1_2) (.bool u6.s) (.slice u6.A u6.n u6.c) (.slice u6.B u6.m u6.d), below_storQ (below_storQ F6 gl2) gl1⟩ | with_reducible exact ⟨_, _, _, u5, u6, rfl, rfl, rfl, (z2_6.past lyy1_2).stor, z1_6.stor.past lzz1_2, (by first | exact lz1_bx | exact lz2_bx | (have h9_ := bx_6.lt; omega)), (by first | exact lz1_bx | exact lz2_bx | (have h9_ := bx_6.lt; omega)), (by first | exact lz1_by | exact lz2_by | (have h9_ := by_6.lt; omega)), (by first | exact lz1_by | exact lz2_by | (have h9_ := by_6.lt; omega)), (by first | exact lz1_br | exact lz2_br | (have h9_ := br_6.lt; omega)), (by first | exact lz1_br | exact lz2_br | (have h9_ := br_6.lt; omega)), (bx_6.past3 lz1_bx).past3 lz2_bx, (by_6.past3 lz1_by).past3 lz2_by, (br_6.past3 lz1_br).past3 lz2_br, (ha_6.storQ z1_6 (.bool u6.s) (.slice u6.A u6.n u6.c) (.slice u6.B u6.m u6.d)).storQ (z2_6.past lyy1_2) (.bool u5.s) (.slice u5.A u5.n u5.c) (.slice u5.B u5.m u5.d), (hc_6.storQ z1_6 (.bool u6.s) (.slice u6.A u6.n u6.c) (.slice u6.B u6.m u6.d)).storQ (z2_6.past lyy1_2) (.bool u5.s) (.slice u5.A u5.n u5.c) (.slice u5.B u5.m u5.d), (hx_6.storQ z1_6 (.bool u6.s) (.slice u6.A u6.n u6.c) (.slice u6.B u6.m u6.d)).storQ (z2_6.past lyy1_2) (.bool u5.s) (.slice u5.A u5.n u5.c) (.slice u5.B u5.m u5.d), (rx_6.storQ z1_6 (.bool u6.s) (.slice u6.A u6.n u6.c) (.slice u6.B u6.m u6.d)).storQ (z2_6.past lyy1_2) (.bool u5.s) (.slice u5.A u5.n u5.c) (.slice u5.B u5.m u5.d), (ry.storQ z1_6 (.bool u6.s) (.slice u6.A u6.n u6.c) (.slice u6.B u6.m u6.d)).storQ (z2_6.past lyy1_2) (.bool u5.s) (.slice u5.A u5.n u5.c) (.slice u5.B u5.m u5.d), below_storQ (below_storQ F6 gl1) gl2⟩ | with_reducible exact ⟨_, _, _, u5, u6, rfl, rfl, rfl, (z1_6.stor).alloc _, Sq_at (Sq.new _ _ _ _) (by simp [World.setCell]), (by first | exact lz1_bx | exact lz2_bx | (have h9_ := bx_6.lt; omega)), (by first | exact lz1_bx | exact lz2_bx | (have h9_ := bx_6.lt; omega)), (by first | exact lz1_by | exact lz2_by | (have h9_ := by_6.lt; omega)), (by first | exact lz1_by | exact lz2_by | (have h9_ := by_6.lt; omega)), (by first | exact lz1_br | exact lz2_br | (have h9_ := br_6.lt; omega)), (by first | exact lz1_br | exact lz2_br | (have h9_ := br_6.lt; omega)), (bx_6.past3 lz1_bx).alloc _, (by_6.past3 lz1_by).alloc _, (br_6.past3 lz1_br).alloc _, (ha_6.storQ z1_6 (.bool u5.s) (.slice u5.A u5.n u5.c) (.slice u5.B u5.m u5.d)).alloc _, (hc_6.storQ z1_6 (.bool u5.s) (.slice u5.A u5.n u5.c) (.slice u5.B u5.m u5.d)).alloc _, (hx_6.storQ z1_6 (.bool u5.s) (.slice u5.A u5.n u5.c) (.slice u5.B u5.m u5.d)).alloc _, (rx_6.storQ z1_6 (.bool u5.s) (.slice u5.A u5.n u5.c) (.slice u5.B u5.m u5.d)).alloc _, (ry.storQ z1_6 (.bool u5.s) (.slice u5.A u5.n u5.c) (.slice u5.B u5.m u5.d)).alloc _, (below_storQ F6 gl1).alloc (below_storQ F6 gl1).size _⟩ | with_reducible exact ⟨_, _, _, u5, u6, rfl, rfl, rfl, Sq_at (Sq.new _ _ _ _) (by simp [World.setCell]), (z1_6.stor).alloc _, (by first | exact lz1_bx | exact lz2_bx | (have h9_ := bx_6.lt; omega)), (by first | exact lz1_bx | exact lz2_bx | (have h9_ := bx_6.lt; omega)), (by first | exact lz1_by | exact lz2_by | (have h9_ := by_6.lt; omega)), (by first | exact lz1_by | exact lz2_by | (have h9_ := by_6.lt; omega)), (by first | exact lz1_br | exact lz2_br | (have h9_ := br_6.lt; omega)), (by first | exact lz1_br | exact lz2_br | (have h9_ := br_6.lt; omega)), (bx_6.past3 lz1_bx).alloc _, (by_6.past3 lz1_by).alloc _, (br_6.past3 lz1_br).alloc _, (ha_6.storQ z1_6 (.bool u6.s) (.slice u6.A u6.n u6.c) (.slice u6.B u6.m u6.d)).alloc _, (hc_6.storQ z1_6 (.bool u6.s) (.slice u6.A u6.n u6.c) (.slice u6.B u6.m u6.d)).alloc _, (hx_6.storQ z1_6 (.bool u6.s) (.slice u6.A u6.n u6.c) (.slice u6.B u6.m u6.d)).alloc _, (rx_6.storQ z1_6 (.bool u6.s) (.slice u6.A u6.n u6.c) (.slice u6.B u6.m u6.d)).alloc _, (ry.storQ z1_6 (.bool u6.s) (.slice u6.A u6.n u6.c) (.slice u6.B u6.m u6.d)).alloc _, (below_storQ F6 gl1).alloc (below_storQ F6 gl1).size _⟩ | with_reducible exact ⟨_, _, _, u5, u6, rfl, rfl, rfl, (Sq.new _ _ _ _).alloc _, Sq_at (Sq.new _ _ _ _) (by simp), (by first | exact lz1_bx | exact lz2_bx | (have h9_ := bx_6.lt; omega)), (by first | exact lz1_bx | exact lz2_bx | (have h9_ := bx_6.lt; omega)), (by first | exact lz1_by | exact lz2_by | (have h9_ := by_6.lt; omega)), (by first | exact lz1_by | exact lz2_by | (have h9_ := by_6.lt; omega)), (by first | exact lz1_br | exact lz2_br | (have h9_ := br_6.lt; omega)), (by first | exact lz1_br | exact lz2_br | (have h9_ := br_6.lt; omega)), (bx_6.alloc _).alloc _, (by_6.alloc _).alloc _, (br_6.alloc _).alloc _, (ha_6.alloc _).alloc _, (hc_6.alloc _).alloc _, (hx_6.alloc _).alloc _, (rx_6.alloc _).alloc _, (ry.alloc _).alloc _, (F6.alloc F6.size _).alloc (F6.alloc F6.size _).size _⟩ | with_reducible exact ⟨_, _, _, u5, u6, rfl, rfl, rfl, Sq_at (Sq.new _ _ _ _) (by simp), (Sq.new _ _ _ _).alloc _, (by first | exact lz1_bx | exact lz2_bx | (have h9_ := bx_6.lt; omega)), (by first | exact lz1_bx | exact lz2_bx | (have h9_ := bx_6.lt; omega)), (by first | exact lz1_by | exact lz2_by | (have h9_ := by_6.lt; omega)), (by first | exact lz1_by | exact lz2_by | (have h9_ := by_6.lt; omega)), (by first | exact lz1_br | exact lz2_br | (have h9_ := br_6.lt; omega)), (by first | exact lz1_br | exact lz2_br | (have h9_ := br_6.lt; omega)), (bx_6.alloc _).alloc _, (by_6.alloc _).alloc _, (br_6.alloc _).alloc _, (ha_6.alloc _).alloc _, (hc_6.alloc _).alloc _, (hx_6.alloc _).alloc _, (rx_6.alloc _).alloc _, (ry.alloc _).alloc _, (F6.alloc F6.size _).alloc (F6.alloc F6.size _).size _⟩ | fail)
  case rest =>
    obtain ⟨Wqx, gqx, gqy, qxu, qyu, rfl, rfl, rfl, hgqx0, hgqy0, nx7_bx, ny7_bx, nx7_by, ny7_by, nx7_br, ny7_br, bx_7, by_7, br_7, ha_7, hc_7, hx_7, rx_7, ry_7, F7⟩ := hcut
    have hgqx : Su Wqx gqx qxu := hgqx0
    have hgqy : Su Wqx gqy qyu := hgqy0
    clear hgqx0 hgqy0
    have bx_u7 := bx_7.cell0
    have bx_v7 := bx_7.cell1
    have bx_w7 := bx_7.cell2
    have bx_x7 := bx_7.cell3
    have bx_y7 := bx_7.cell4
    have bx_z7 := bx_7.cell5
    have by_u7 := by_7.cell0
    have by_v7 := by_7.cell1
    have by_w7 := by_7.cell2
    have br_u7 : (Wqx).cell? ⟨w.heap.size + 2, 0, none⟩ = some (.bool false) := br_7.cell0
    have br_v7 : (Wqx).cell? ⟨w.heap.size + 2, 1, none⟩ = some (.slice none 0 0) := br_7.cell1
    have br_w7 : (Wqx).cell? ⟨w.heap.size + 2, 2, none⟩ = some (.slice none 0 0) := br_7.cell2
    have br_x7 : (Wqx).cell? ⟨w.heap.size + 2, 3, none⟩ = some (.bool false) := br_7.cell3
    have br_y7 : (Wqx).cell? ⟨w.heap.size + 2, 4, none⟩ = some (.slice none 0 0) := br_7.cell4
    have br_z7 : (Wqx).cell? ⟨w.heap.size + 2, 5, none⟩ = some (.slice none 0 0) := br_7.cell5
    have qx_u7 := hgqx.cell0
    have qx_v7 := hgqx.cell1
    have qx_w7 := hgqx.cell2
    have qy_u7 := hgqy.cell0
    have qy_v7 := hgqy.cell1
    have qy_w7 := hgqy.cell2
    have lux := (rx_7.len s1).mono k2
    have luy := (ry_7.len s2).mono k2
    go_wp2_with fail
    have rx_8 := rx_7.drew
    have ry_8 := ry_7.drew
    have br_8 := br_7.drew
    have qx_8 := hgqx.drew
    have qy_8 := hgqy.drew
    have F8 := F7.drew
    go_region_held3 (fun w' => w'.cell? ⟨gqx, 0, none⟩ = some (.bool qxu.s) ∧ w'.cell? ⟨gqx, 1, none⟩ = some (.slice qxu.A qxu.n qxu.c) ∧ w'.cell? ⟨gqx, 2, none⟩ = some (.slice qxu.B qxu.m qxu.d) ∧ w'.cell? ⟨gqy, 0, none⟩ = some (.bool qyu.s) ∧ w'.cell? ⟨gqy, 1, none⟩ = some (.slice qyu.A qyu.n qyu.c) ∧ w'.cell? ⟨gqy, 2, none⟩ = some (.slice qyu.B qyu.m qyu.d))
      (first
        | with_reducible exact ⟨qx_p.cell0, qx_p.cell1, qx_p.cell2, qy_p.cell0, qy_p.cell1, qy_p.cell2⟩
        | with_reducible exact ⟨qx_10.cell0, qx_10.cell1, qx_10.cell2, qy_10.cell0, qy_10.cell1, qy_10.cell2⟩
        | with_reducible exact ⟨qx_9.cell0, qx_9.cell1, qx_9.cell2, qy_9.cell0, qy_9.cell1, qy_9.cell2⟩
        | with_reducible exact ⟨qx_8.cell0, qx_8.cell1, qx_8.cell2, qy_8.cell0, qy_8.cell1, qy_8.cell2⟩
        | fail)
      (first
        | (go_at_call 52; (with_reducible refine (min_u _ _ (p * z) (q * z) _ _ rfl rx_8.iu ry_8.iu lux luy).mono ?_); rintro e w9 ⟨u9, rfl, z1, b9⟩; have rx_9 := rx_8.below b9; have ry_9 := ry_8.below b9; have br_9 := br_8.below b9 br_8.lt; have qx_9 := qx_8.below b9 qx_8.lt; have qy_9 := qy_8.below b9 qy_8.lt; have F9 := below_then F8 (Nat.le_refl _) b9)
        | (go_at_call 33; (with_reducible refine (max_u _ _ (p * z) (q * z) _ _ rfl rx_9.iu ry_9.iu lux luy).mono ?_); rintro e w10 ⟨u10, rfl, z2, b10⟩; have rx_10 := rx_9.below b10; have ry_10 := ry_9.below b10; have z1_10 := z1.below b10; have br_10 := br_9.below b10 br_9.lt; have qx_10 := qx_9.below b10 qx_9.lt; have qy_10 := qy_9.below b10 qy_9.lt; have F10 := below_then F9 (Nat.le_refl _) b10; have br_g0 := br_10.cell0; have br_h0 := br_10.frozen 0; have br_g1 := br_10.cell1; have br_h1 := br_10.frozen 1; have br_g2 := br_10.cell2; have br_h2 := br_10.frozen 2; have br_g3 := br_10.cell3; have br_h3 := br_10.frozen 3; have br_g4 := br_10.cell4; have br_h4 := br_10.frozen 4; have br_g5 := br_10.cell5; have br_h5 := br_10.frozen 5; have qx_p := qx_10.past6 (g' := w.heap.size + 2) (u0 := .bool u9.s) (u1 := .slice u9.A u9.n u9.c) (u2 := .slice u9.B u9.m u9.d) (u3 := .bool u10.s) (u4 := .slice u10.A u10.n u10.c) (u5 := .slice u10.B u10.m u10.d) (by omega); have qy_p := qy_10.past6 (g' := w.heap.size + 2) (u0 := .bool u9.s) (u1 := .slice u9.A u9.n u9.c) (u2 := .slice u9.B u9.m u9.d) (u3 := .bool u10.s) (u4 := .slice u10.A u10.n u10.c) (u5 := .slice u10.B u10.m u10.d) (by omega))
        | fail)
    go_wp2_with fail
    refine bodyPost_ret (v := .agg #[.bool u9.s, .slice u9.A u9.n u9.c, .slice u9.B u9.m u9.d, .bool u10.s, .slice u10.A u10.n u10.c, .slice u10.B u10.m u10.d]) (by simp [results, Try.results24, go_sem, (Sv.stor br_10 u9 u10).cell0, (Sv.stor br_10 u9 u10).cell1, (Sv.stor br_10 u9 u10).cell2, (Sv.stor br_10 u9 u10).cell3, (Sv.stor br_10 u9 u10).cell4, (Sv.stor br_10 u9 u10).cell5]) rfl (gv_end F10 (by omega) br_10 z1_10 z2)
end Go.Proofs.Ytnddhohjfjlaiaa
