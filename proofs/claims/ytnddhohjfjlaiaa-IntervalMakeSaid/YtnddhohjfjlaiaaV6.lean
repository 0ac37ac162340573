/-
  The specification's Mul, Meet.
-/
import Derived.Test.YtnddhohjfjlaiaaV5
namespace Go.Proofs.Ytnddhohjfjlaiaa
open Go.RowKit
set_option linter.unusedVariables false
set_option linter.unusedSimpArgs false

theorem Cu.stor6 {w : World} {a : Rv} {q : Rat} (h : Cu w a q) {g : Nat} {s t : Bool} {A1 A2 A3 A4 : Option Addr} {n1 n2 n3 n4 c1 c2 c3 c4 : Nat} (hs : S6 w g (.bool s) (.slice A1 n1 c1) (.slice A2 n2 c2) (.bool t) (.slice A3 n3 c3) (.slice A4 n4 c4)) (u0 u1 u2 u3 u4 u5 : Value) : Cu ((((((w.setCell ⟨g, 0, none⟩ u0).setCell ⟨g, 1, none⟩ u1).setCell ⟨g, 2, none⟩ u2).setCell ⟨g, 3, none⟩ u3).setCell ⟨g, 4, none⟩ u4).setCell ⟨g, 5, none⟩ u5) a q := ⟨h.1.six (S6.away6 hs h.1) _ _ _ _ _ _, h.2.1.six (S6.away6 hs h.2.1) _ _ _ _ _ _, h.2.2⟩
theorem Iu.stor6 {w : World} {a : Rv} {q : Rat} (h : Iu w a q) {g : Nat} {s t : Bool} {A1 A2 A3 A4 : Option Addr} {n1 n2 n3 n4 c1 c2 c3 c4 : Nat} (hs : S6 w g (.bool s) (.slice A1 n1 c1) (.slice A2 n2 c2) (.bool t) (.slice A3 n3 c3) (.slice A4 n4 c4)) (u0 u1 u2 u3 u4 u5 : Value) : Iu ((((((w.setCell ⟨g, 0, none⟩ u0).setCell ⟨g, 1, none⟩ u1).setCell ⟨g, 2, none⟩ u2).setCell ⟨g, 3, none⟩ u3).setCell ⟨g, 4, none⟩ u4).setCell ⟨g, 5, none⟩ u5) a q := by
  obtain ⟨xs, ys, h1, h2, h3⟩ := h
  exact ⟨xs, ys, h1.six (S6.away6 hs h1) _ _ _ _ _ _, h2.six (S6.away6 hs h2) _ _ _ _ _ _, h3⟩
theorem qs_min {k : Nat} {p q : Rat} (h1 : Qs k p) (h2 : Qs k q) : Qs k (min p q) := by
  rw [← mn_of]
  split <;> assumption
theorem qs_max {k : Nat} {p q : Rat} (h1 : Qs k p) (h2 : Qs k q) : Qs k (max p q) := by
  rw [← mx_of]
  split <;> assumption
theorem mul_iv (a c x y : Rv) (p q p' q' : Rat) (w : World) (ha : Iu w a p) (hc : Iu w c q) (hx : Iu w x p') (hy : Iu w y q') (la : Lu 4000 a) (lc : Lu 4000 c) (lx : Lu 4000 x) (ly : Lu 4000 y) (sp : Qs 100 p) (sq : Qs 100 q) (sp' : Qs 100 p') (sq' : Qs 100 q') : Calls Try.prog 31 #[.agg #[.bool a.s, .slice a.A a.n a.c, .slice a.B a.m a.d, .bool c.s, .slice c.A c.n c.c, .slice c.B c.m c.d], .agg #[.bool x.s, .slice x.A x.n x.c, .slice x.B x.m x.d, .bool y.s, .slice y.A y.n y.c, .slice y.B y.m y.d]] w (GV w (min (min (p * p') (q * p')) (min (p * q') (q * q'))) (max (max (p * p') (q * p')) (max (p * q') (q * q')))) := by
  have s1 : Qs 200 (p * p') := by have h := size_mul sp sp'; exact h
  have s2 : Qs 200 (q * p') := by have h := size_mul sq sp'; exact h
  have s3 : Qs 200 (p * q') := by have h := size_mul sp sq'; exact h
  have s4 : Qs 200 (q * q') := by have h := size_mul sq sq'; exact h
  have t1 := qs_min s1 s2
  have t2 := qs_max s1 s2
  have t3 := qs_min s3 s4
  have t4 := qs_max s3 s4
  have k2 : 200 ≤ 4000 := by decide
  clear s1 s2 s3 s4
  have ha_1 := ha.alloc (EV a c)
  have hc_1 := hc.alloc (EV a c)
  have hx_1 := hx.alloc (EV a c)
  have hy_1 := hy.alloc (EV a c)
  have ba_1 : Sv ((w).alloc (EV a c)) (w.heap.size) a c := by have h_ := Sv.new (w) a c; exact h_
  have F1 := (Below.refl w.heap.size w).alloc (Nat.le_refl _) (EV a c)
  have ha_2 := ha_1.alloc (EV x y)
  have hc_2 := hc_1.alloc (EV x y)
  have hx_2 := hx_1.alloc (EV x y)
  have hy_2 := hy_1.alloc (EV x y)
  have ba_2 := ba_1.alloc (EV x y)
  have bb_2 : Sv (((w).alloc (EV a c)).alloc (EV x y)) (w.heap.size + 1) x y := by have h_ := Sv.new ((w).alloc (EV a c)) x y; simp only [World.size_alloc] at h_; exact h_
  have F2 := F1.alloc F1.size (EV x y)
  have ha_3 := ha_2.alloc EV0
  have hc_3 := hc_2.alloc EV0
  have hx_3 := hx_2.alloc EV0
  have hy_3 := hy_2.alloc EV0
  have ba_3 := ba_2.alloc EV0
  have bb_3 := bb_2.alloc EV0
  have br_3 : Sv ((((w).alloc (EV a c)).alloc (EV x y)).alloc EV0) (w.heap.size + 2) Rv.zero Rv.zero := by have h_ := Sv.new (((w).alloc (EV a c)).alloc (EV x y)) Rv.zero Rv.zero; simp only [World.size_alloc] at h_; exact h_
  have F3 := F2.alloc F2.size EV0
  go_enter Try.func31, Try.ntmps31
  have ba_u3 := ba_3.cell0
  have ba_v3 := ba_3.cell1
  have ba_w3 := ba_3.cell2
  have ba_x3 := ba_3.cell3
  have ba_y3 := ba_3.cell4
  have ba_z3 := ba_3.cell5
  have bb_u3 := bb_3.cell0
  have bb_v3 := bb_3.cell1
  have bb_w3 := bb_3.cell2
  have bb_x3 := bb_3.cell3
  have bb_y3 := bb_3.cell4
  have bb_z3 := bb_3.cell5
  have br_u3 : ((((w).alloc (EV a c)).alloc (EV x y)).alloc EV0).cell? ⟨w.heap.size + 2, 0, none⟩ = some (.bool false) := br_3.cell0
  have br_v3 : ((((w).alloc (EV a c)).alloc (EV x y)).alloc EV0).cell? ⟨w.heap.size + 2, 1, none⟩ = some (.slice none 0 0) := br_3.cell1
  have br_w3 : ((((w).alloc (EV a c)).alloc (EV x y)).alloc EV0).cell? ⟨w.heap.size + 2, 2, none⟩ = some (.slice none 0 0) := br_3.cell2
  have br_x3 : ((((w).alloc (EV a c)).alloc (EV x y)).alloc EV0).cell? ⟨w.heap.size + 2, 3, none⟩ = some (.bool false) := br_3.cell3
  have br_y3 : ((((w).alloc (EV a c)).alloc (EV x y)).alloc EV0).cell? ⟨w.heap.size + 2, 4, none⟩ = some (.slice none 0 0) := br_3.cell4
  have br_z3 : ((((w).alloc (EV a c)).alloc (EV x y)).alloc EV0).cell? ⟨w.heap.size + 2, 5, none⟩ = some (.slice none 0 0) := br_3.cell5
  go_wp2_with fail
  have ha_4 := ha_3.drew
  have hc_4 := hc_3.drew
  have hx_4 := hx_3.drew
  have hy_4 := hy_3.drew
  have ba_4 := ba_3.drew
  have bb_4 := bb_3.drew
  have br_4 := br_3.drew
  have F4 := F3.drew
  go_region_held3 (fun w' => w'.cell? ⟨w.heap.size, 0, none⟩ = some (.bool a.s) ∧ w'.cell? ⟨w.heap.size, 1, none⟩ = some (.slice a.A a.n a.c) ∧ w'.cell? ⟨w.heap.size, 2, none⟩ = some (.slice a.B a.m a.d) ∧ w'.cell? ⟨w.heap.size, 3, none⟩ = some (.bool c.s) ∧ w'.cell? ⟨w.heap.size, 4, none⟩ = some (.slice c.A c.n c.c) ∧ w'.cell? ⟨w.heap.size, 5, none⟩ = some (.slice c.B c.m c.d) ∧ w'.cell? ⟨w.heap.size + 1, 0, none⟩ = some (.bool x.s) ∧ w'.cell? ⟨w.heap.size + 1, 1, none⟩ = some (.slice x.A x.n x.c) ∧ w'.cell? ⟨w.heap.size + 1, 2, none⟩ = some (.slice x.B x.m x.d) ∧ w'.cell? ⟨w.heap.size + 1, 3, none⟩ = some (.bool y.s) ∧ w'.cell? ⟨w.heap.size + 1, 4, none⟩ = some (.slice y.A y.n y.c) ∧ w'.cell? ⟨w.heap.size + 1, 5, none⟩ = some (.slice y.B y.m y.d))
    (first
      | with_reducible exact ⟨ba_p.cell0, ba_p.cell1, ba_p.cell2, ba_p.cell3, ba_p.cell4, ba_p.cell5, bb_p.cell0, bb_p.cell1, bb_p.cell2, bb_p.cell3, bb_p.cell4, bb_p.cell5⟩
      | with_reducible exact ⟨ba_7.cell0, ba_7.cell1, ba_7.cell2, ba_7.cell3, ba_7.cell4, ba_7.cell5, bb_7.cell0, bb_7.cell1, bb_7.cell2, bb_7.cell3, bb_7.cell4, bb_7.cell5⟩
      | with_reducible exact ⟨ba_6.cell0, ba_6.cell1, ba_6.cell2, ba_6.cell3, ba_6.cell4, ba_6.cell5, bb_6.cell0, bb_6.cell1, bb_6.cell2, bb_6.cell3, bb_6.cell4, bb_6.cell5⟩
      | with_reducible exact ⟨ba_5.cell0, ba_5.cell1, ba_5.cell2, ba_5.cell3, ba_5.cell4, ba_5.cell5, bb_5.cell0, bb_5.cell1, bb_5.cell2, bb_5.cell3, bb_5.cell4, bb_5.cell5⟩
      | with_reducible exact ⟨ba_4.cell0, ba_4.cell1, ba_4.cell2, ba_4.cell3, ba_4.cell4, ba_4.cell5, bb_4.cell0, bb_4.cell1, bb_4.cell2, bb_4.cell3, bb_4.cell4, bb_4.cell5⟩
      | fail)
    (first
      | (go_at_call 24; (with_reducible refine (scale_iv _ _ _ p q p' _ ha_4 hc_4 hx_4 la lc lx sp sq sp').mono ?_); rintro e w5 ⟨u5, v5, rfl, a1, c1, b5⟩; have ha_5 := ha_4.below b5; have hc_5 := hc_4.below b5; have hx_5 := hx_4.below b5; have hy_5 := hy_4.below b5; have ba_5 := ba_4.below b5 ba_4.lt; have bb_5 := bb_4.below b5 bb_4.lt; have br_5 := br_4.below b5 br_4.lt; have F5 := below_then F4 (Nat.le_refl _) b5)
      | (go_at_call 24; (with_reducible refine (scale_iv _ _ _ p q q' _ ha_5 hc_5 hy_5 la lc ly sp sq sq').mono ?_); rintro e w6 ⟨u6, v6, rfl, a2, c2, b6⟩; have ha_6 := ha_5.below b6; have hc_6 := hc_5.below b6; have hx_6 := hx_5.below b6; have hy_6 := hy_5.below b6; have a1_6 := a1.below b6; have c1_6 := c1.below b6; have ba_6 := ba_5.below b6 ba_5.lt; have bb_6 := bb_5.below b6 bb_5.lt; have br_6 := br_5.below b6 br_5.lt; have F6 := below_then F5 (Nat.le_refl _) b6)
      | (go_at_call 38; (with_reducible refine (join_iv _ _ _ _ _ _ _ _ _ a1_6.iu c1_6.iu a2.iu c2.iu ((a1_6.len t1).mono k2) ((c1_6.len t2).mono k2) ((a2.len t3).mono k2) ((c2.len t4).mono k2)).mono ?_); rintro e w7 ⟨u7, v7, rfl, a3, c3, b7⟩; have ha_7 := ha_6.below b7; have hc_7 := hc_6.below b7; have hx_7 := hx_6.below b7; have hy_7 := hy_6.below b7; have a1_7 := a1_6.below b7; have c1_7 := c1_6.below b7; have a2_7 := a2.below b7; have c2_7 := c2.below b7; have ba_7 := ba_6.below b7 ba_6.lt; have bb_7 := bb_6.below b7 bb_6.lt; have br_7 := br_6.below b7 br_6.lt; have F7 := below_then F6 (Nat.le_refl _) b7; have br_g0 := br_7.cell0; have br_h0 := br_7.frozen 0; have br_g1 := br_7.cell1; have br_h1 := br_7.frozen 1; have br_g2 := br_7.cell2; have br_h2 := br_7.frozen 2; have br_g3 := br_7.cell3; have br_h3 := br_7.frozen 3; have br_g4 := br_7.cell4; have br_h4 := br_7.frozen 4; have br_g5 := br_7.cell5; have br_h5 := br_7.frozen 5; have ba_p := ba_7.past6 (g' := w.heap.size + 2) (u0 := .bool u7.s) (u1 := .slice u7.A u7.n u7.c) (u2 := .slice u7.B u7.m u7.d) (u3 := .bool v7.s) (u4 := .slice v7.A v7.n v7.c) (u5 := .slice v7.B v7.m v7.d) (by omega); have bb_p := bb_7.past6 (g' := w.heap.size + 2) (u0 := .bool u7.s) (u1 := .slice u7.A u7.n u7.c) (u2 := .slice u7.B u7.m u7.d) (u3 := .bool v7.s) (u4 := .slice v7.A v7.n v7.c) (u5 := .slice v7.B v7.m v7.d) (by omega))
      | fail)
  go_wp2_with fail
  refine bodyPost_ret (v := .agg #[.bool u7.s, .slice u7.A u7.n u7.c, .slice u7.B u7.m u7.d, .bool v7.s, .slice v7.A v7.n v7.c, .slice v7.B v7.m v7.d]) (by simp [results, Try.results31, go_sem, (Sv.stor br_7 u7 v7).cell0, (Sv.stor br_7 u7 v7).cell1, (Sv.stor br_7 u7 v7).cell2, (Sv.stor br_7 u7 v7).cell3, (Sv.stor br_7 u7 v7).cell4, (Sv.stor br_7 u7 v7).cell5]) rfl (gv_end F7 (by omega) br_7 a3 c3)
theorem meet_iv (a c x y : Rv) (p q p' q' : Rat) (w : World) (ha : Iu w a p) (hc : Iu w c q) (hx : Iu w x p') (hy : Iu w y q') (la : Lu 4000 a) (lc : Lu 4000 c) (lx : Lu 4000 x) (ly : Lu 4000 y) (sp : Qs 100 p) (sq : Qs 100 q) (sp' : Qs 100 p') (sq' : Qs 100 q') (hle : max p p' ≤ min q q') : Calls Try.prog 37 #[.agg #[.bool a.s, .slice a.A a.n a.c, .slice a.B a.m a.d, .bool c.s, .slice c.A c.n c.c, .slice c.B c.m c.d], .agg #[.bool x.s, .slice x.A x.n x.c, .slice x.B x.m x.d, .bool y.s, .slice y.A y.n y.c, .slice y.B y.m y.d]] w (GVE w (max p p') (min q q') 0) := by
  have t1 := qs_max sp sp'
  have t2 := qs_min sq sq'
  have k2 : 100 ≤ 4000 := by decide
  have HL := hide hle
  clear hle
  have ha_1 := ha.alloc (EV a c)
  have hc_1 := hc.alloc (EV a c)
  have hx_1 := hx.alloc (EV a c)
  have hy_1 := hy.alloc (EV a c)
  have ba_1 : Sv ((w).alloc (EV a c)) (w.heap.size) a c := by have h_ := Sv.new (w) a c; exact h_
  have F1 := (Below.refl w.heap.size w).alloc (Nat.le_refl _) (EV a c)
  have ha_2 := ha_1.alloc (EV x y)
  have hc_2 := hc_1.alloc (EV x y)
  have hx_2 := hx_1.alloc (EV x y)
  have hy_2 := hy_1.alloc (EV x y)
  have ba_2 := ba_1.alloc (EV x y)
  have bb_2 : Sv (((w).alloc (EV a c)).alloc (EV x y)) (w.heap.size + 1) x y := by have h_ := Sv.new ((w).alloc (EV a c)) x y; simp only [World.size_alloc] at h_; exact h_
  have F2 := F1.alloc F1.size (EV x y)
  have ha_3 := ha_2.alloc EV0
  have hc_3 := hc_2.alloc EV0
  have hx_3 := hx_2.alloc EV0
  have hy_3 := hy_2.alloc EV0
  have ba_3 := ba_2.alloc EV0
  have bb_3 := bb_2.alloc EV0
  have br_3 : Sv ((((w).alloc (EV a c)).alloc (EV x y)).alloc EV0) (w.heap.size + 2) Rv.zero Rv.zero := by have h_ := Sv.new (((w).alloc (EV a c)).alloc (EV x y)) Rv.zero Rv.zero; simp only [World.size_alloc] at h_; exact h_
  have F3 := F2.alloc F2.size EV0
  go_enter Try.func37, Try.ntmps37
  have ba_u3 := ba_3.cell0
  have ba_v3 := ba_3.cell1
  have ba_w3 := ba_3.cell2
  have ba_x3 := ba_3.cell3
  have ba_y3 := ba_3.cell4
  have ba_z3 := ba_3.cell5
  have bb_u3 := bb_3.cell0
  have bb_v3 := bb_3.cell1
  have bb_w3 := bb_3.cell2
  have bb_x3 := bb_3.cell3
  have bb_y3 := bb_3.cell4
  have bb_z3 := bb_3.cell5
  have br_u3 : ((((w).alloc (EV a c)).alloc (EV x y)).alloc EV0).cell? ⟨w.heap.size + 2, 0, none⟩ = some (.bool false) := br_3.cell0
  have br_v3 : ((((w).alloc (EV a c)).alloc (EV x y)).alloc EV0).cell? ⟨w.heap.size + 2, 1, none⟩ = some (.slice none 0 0) := br_3.cell1
  have br_w3 : ((((w).alloc (EV a c)).alloc (EV x y)).alloc EV0).cell? ⟨w.heap.size + 2, 2, none⟩ = some (.slice none 0 0) := br_3.cell2
  have br_x3 : ((((w).alloc (EV a c)).alloc (EV x y)).alloc EV0).cell? ⟨w.heap.size + 2, 3, none⟩ = some (.bool false) := br_3.cell3
  have br_y3 : ((((w).alloc (EV a c)).alloc (EV x y)).alloc EV0).cell? ⟨w.heap.size + 2, 4, none⟩ = some (.slice none 0 0) := br_3.cell4
  have br_z3 : ((((w).alloc (EV a c)).alloc (EV x y)).alloc EV0).cell? ⟨w.heap.size + 2, 5, none⟩ = some (.slice none 0 0) := br_3.cell5
  go_upto_region 1 with fail
  go_cut [6, 7] (fun sx3 ev wy => ∃ (wx3 : World) (g : Nat) (u5 : Rv) (u6 : Rv) (u7 : Rv) (v7 : Rv), wx3 = wy ∧ sx3 = .pointer (some ⟨g, 0, none⟩) ∧ ev = .int .i64 0 ∧ S6 wx3 g (.bool u7.s) (.slice u7.A u7.n u7.c) (.slice u7.B u7.m u7.d) (.bool v7.s) (.slice v7.A v7.n v7.c) (.slice v7.B v7.m v7.d) ∧ w.heap.size ≤ g ∧ w.heap.size ≠ g ∧ w.heap.size + 1 ≠ g ∧ w.heap.size + 2 ≠ g ∧ Sv wx3 (w.heap.size) a c ∧ Sv wx3 (w.heap.size + 1) x y ∧ Sv wx3 (w.heap.size + 2) Rv.zero Rv.zero ∧ Iu wx3 a p ∧ Iu wx3 c q ∧ Iu wx3 x p' ∧ Iu wx3 y q' ∧ Cu wx3 u7 (max p p') ∧ Cu wx3 v7 (min q q') ∧ Below w.heap.size w wx3)
  case first =>
    have le1_ : w.heap.size ≠ w.heap.size + 1 := by omega
    have lf1_ := Ne.symm le1_
    have le2_ : w.heap.size ≠ w.heap.size + 1 + 1 := by omega
    have lf2_ := Ne.symm le2_
    have le3_ : w.heap.size ≠ w.heap.size + 1 + 1 + 1 := by omega
    have lf3_ := Ne.symm le3_
    have le4_ : w.heap.size ≠ w.heap.size + 1 + 1 + 1 + 1 := by omega
    have lf4_ := Ne.symm le4_
    have ha_4 := ha_3.drew
    have hc_4 := hc_3.drew
    have hx_4 := hx_3.drew
    have hy_4 := hy_3.drew
    have ba_4 := ba_3.drew
    have bb_4 := bb_3.drew
    have br_4 := br_3.drew
    have F4 := F3.drew
    have ha_z0 := (ha_3.alloc EV0).drew
    have hc_z0 := (hc_3.alloc EV0).drew
    have hx_z0 := (hx_3.alloc EV0).drew
    have hy_z0 := (hy_3.alloc EV0).drew
    have ba_z0 := (ba_3.alloc EV0).drew
    have bb_z0 := (bb_3.alloc EV0).drew
    have br_z0 := (br_3.alloc EV0).drew
    have lz_ba : w.heap.size ≠ w.heap.size + 3 := by omega
    have lz_bb : w.heap.size + 1 ≠ w.heap.size + 3 := by omega
    have lz_br : w.heap.size + 2 ≠ w.heap.size + 3 := by omega
    have gl : w.heap.size ≤ w.heap.size + 3 := by omega
    have F_z0 := (F3.alloc F3.size EV0).drew
    have zb_0 : S6 (((((w).alloc (EV a c)).alloc (EV x y)).alloc EV0).alloc EV0).drew (w.heap.size + 3) (.bool false) (.slice none 0 0) (.slice none 0 0) (.bool false) (.slice none 0 0) (.slice none 0 0) := by have h_ := S6.new ((((w).alloc (EV a c)).alloc (EV x y)).alloc EV0) (.bool false) (.slice none 0 0) (.slice none 0 0) (.bool false) (.slice none 0 0) (.slice none 0 0); simp only [World.size_alloc] at h_; exact h_.drew
    go_region_held3 (fun w' => w'.cell? ⟨w.heap.size, 0, none⟩ = some (.bool a.s) ∧ w'.cell? ⟨w.heap.size, 1, none⟩ = some (.slice a.A a.n a.c) ∧ w'.cell? ⟨w.heap.size, 2, none⟩ = some (.slice a.B a.m a.d) ∧ w'.cell? ⟨w.heap.size, 3, none⟩ = some (.bool c.s) ∧ w'.cell? ⟨w.heap.size, 4, none⟩ = some (.slice c.A c.n c.c) ∧ w'.cell? ⟨w.heap.size, 5, none⟩ = some (.slice c.B c.m c.d) ∧ w'.cell? ⟨w.heap.size + 1, 0, none⟩ = some (.bool x.s) ∧ w'.cell? ⟨w.heap.size + 1, 1, none⟩ = some (.slice x.A x.n x.c) ∧ w'.cell? ⟨w.heap.size + 1, 2, none⟩ = some (.slice x.B x.m x.d) ∧ w'.cell? ⟨w.heap.size + 1, 3, none⟩ = some (.bool y.s) ∧ w'.cell? ⟨w.heap.size + 1, 4, none⟩ = some (.slice y.A y.n y.c) ∧ w'.cell? ⟨w.heap.size + 1, 5, none⟩ = some (.slice y.B y.m y.d))
      (first
        | with_reducible exact ⟨(ba_7.alloc (EV u7 v7)).cell0, (ba_7.alloc (EV u7 v7)).cell1, (ba_7.alloc (EV u7 v7)).cell2, (ba_7.alloc (EV u7 v7)).cell3, (ba_7.alloc (EV u7 v7)).cell4, (ba_7.alloc (EV u7 v7)).cell5, (bb_7.alloc (EV u7 v7)).cell0, (bb_7.alloc (EV u7 v7)).cell1, (bb_7.alloc (EV u7 v7)).cell2, (bb_7.alloc (EV u7 v7)).cell3, (bb_7.alloc (EV u7 v7)).cell4, (bb_7.alloc (EV u7 v7)).cell5⟩
        | with_reducible exact ⟨(ba_7.past6 (u0 := .bool u7.s) (u1 := .slice u7.A u7.n u7.c) (u2 := .slice u7.B u7.m u7.d) (u3 := .bool v7.s) (u4 := .slice v7.A v7.n v7.c) (u5 := .slice v7.B v7.m v7.d) lz_ba).cell0, (ba_7.past6 (u0 := .bool u7.s) (u1 := .slice u7.A u7.n u7.c) (u2 := .slice u7.B u7.m u7.d) (u3 := .bool v7.s) (u4 := .slice v7.A v7.n v7.c) (u5 := .slice v7.B v7.m v7.d) lz_ba).cell1, (ba_7.past6 (u0 := .bool u7.s) (u1 := .slice u7.A u7.n u7.c) (u2 := .slice u7.B u7.m u7.d) (u3 := .bool v7.s) (u4 := .slice v7.A v7.n v7.c) (u5 := .slice v7.B v7.m v7.d) lz_ba).cell2, (ba_7.past6 (u0 := .bool u7.s) (u1 := .slice u7.A u7.n u7.c) (u2 := .slice u7.B u7.m u7.d) (u3 := .bool v7.s) (u4 := .slice v7.A v7.n v7.c) (u5 := .slice v7.B v7.m v7.d) lz_ba).cell3, (ba_7.past6 (u0 := .bool u7.s) (u1 := .slice u7.A u7.n u7.c) (u2 := .slice u7.B u7.m u7.d) (u3 := .bool v7.s) (u4 := .slice v7.A v7.n v7.c) (u5 := .slice v7.B v7.m v7.d) lz_ba).cell4, (ba_7.past6 (u0 := .bool u7.s) (u1 := .slice u7.A u7.n u7.c) (u2 := .slice u7.B u7.m u7.d) (u3 := .bool v7.s) (u4 := .slice v7.A v7.n v7.c) (u5 := .slice v7.B v7.m v7.d) lz_ba).cell5, (bb_7.past6 (u0 := .bool u7.s) (u1 := .slice u7.A u7.n u7.c) (u2 := .slice u7.B u7.m u7.d) (u3 := .bool v7.s) (u4 := .slice v7.A v7.n v7.c) (u5 := .slice v7.B v7.m v7.d) lz_bb).cell0, (bb_7.past6 (u0 := .bool u7.s) (u1 := .slice u7.A u7.n u7.c) (u2 := .slice u7.B u7.m u7.d) (u3 := .bool v7.s) (u4 := .slice v7.A v7.n v7.c) (u5 := .slice v7.B v7.m v7.d) lz_bb).cell1, (bb_7.past6 (u0 := .bool u7.s) (u1 := .slice u7.A u7.n u7.c) (u2 := .slice u7.B u7.m u7.d) (u3 := .bool v7.s) (u4 := .slice v7.A v7.n v7.c) (u5 := .slice v7.B v7.m v7.d) lz_bb).cell2, (bb_7.past6 (u0 := .bool u7.s) (u1 := .slice u7.A u7.n u7.c) (u2 := .slice u7.B u7.m u7.d) (u3 := .bool v7.s) (u4 := .slice v7.A v7.n v7.c) (u5 := .slice v7.B v7.m v7.d) lz_bb).cell3, (bb_7.past6 (u0 := .bool u7.s) (u1 := .slice u7.A u7.n u7.c) (u2 := .slice u7.B u7.m u7.d) (u3 := .bool v7.s) (u4 := .slice v7.A v7.n v7.c) (u5 := .slice v7.B v7.m v7.d) lz_bb).cell4, (bb_7.past6 (u0 := .bool u7.s) (u1 := .slice u7.A u7.n u7.c) (u2 := .slice u7.B u7.m u7.d) (u3 := .bool v7.s) (u4 := .slice v7.A v7.n v7.c) (u5 := .slice v7.B v7.m v7.d) lz_bb).cell5⟩
        | with_reducible exact ⟨(ba_7.alloc EV0).cell0, (ba_7.alloc EV0).cell1, (ba_7.alloc EV0).cell2, (ba_7.alloc EV0).cell3, (ba_7.alloc EV0).cell4, (ba_7.alloc EV0).cell5, (bb_7.alloc EV0).cell0, (bb_7.alloc EV0).cell1, (bb_7.alloc EV0).cell2, (bb_7.alloc EV0).cell3, (bb_7.alloc EV0).cell4, (bb_7.alloc EV0).cell5⟩
        | with_reducible exact ⟨ba_7.cell0, ba_7.cell1, ba_7.cell2, ba_7.cell3, ba_7.cell4, ba_7.cell5, bb_7.cell0, bb_7.cell1, bb_7.cell2, bb_7.cell3, bb_7.cell4, bb_7.cell5⟩
        | with_reducible exact ⟨(ba_6.alloc EV0).cell0, (ba_6.alloc EV0).cell1, (ba_6.alloc EV0).cell2, (ba_6.alloc EV0).cell3, (ba_6.alloc EV0).cell4, (ba_6.alloc EV0).cell5, (bb_6.alloc EV0).cell0, (bb_6.alloc EV0).cell1, (bb_6.alloc EV0).cell2, (bb_6.alloc EV0).cell3, (bb_6.alloc EV0).cell4, (bb_6.alloc EV0).cell5⟩
        | with_reducible exact ⟨ba_6.cell0, ba_6.cell1, ba_6.cell2, ba_6.cell3, ba_6.cell4, ba_6.cell5, bb_6.cell0, bb_6.cell1, bb_6.cell2, bb_6.cell3, bb_6.cell4, bb_6.cell5⟩
        | with_reducible exact ⟨(ba_5.alloc EV0).cell0, (ba_5.alloc EV0).cell1, (ba_5.alloc EV0).cell2, (ba_5.alloc EV0).cell3, (ba_5.alloc EV0).cell4, (ba_5.alloc EV0).cell5, (bb_5.alloc EV0).cell0, (bb_5.alloc EV0).cell1, (bb_5.alloc EV0).cell2, (bb_5.alloc EV0).cell3, (bb_5.alloc EV0).cell4, (bb_5.alloc EV0).cell5⟩
        | with_reducible exact ⟨ba_5.cell0, ba_5.cell1, ba_5.cell2, ba_5.cell3, ba_5.cell4, ba_5.cell5, bb_5.cell0, bb_5.cell1, bb_5.cell2, bb_5.cell3, bb_5.cell4, bb_5.cell5⟩
        | with_reducible exact ⟨ba_z0.cell0, ba_z0.cell1, ba_z0.cell2, ba_z0.cell3, ba_z0.cell4, ba_z0.cell5, bb_z0.cell0, bb_z0.cell1, bb_z0.cell2, bb_z0.cell3, bb_z0.cell4, bb_z0.cell5⟩
        | with_reducible exact ⟨ba_4.cell0, ba_4.cell1, ba_4.cell2, ba_4.cell3, ba_4.cell4, ba_4.cell5, bb_4.cell0, bb_4.cell1, bb_4.cell2, bb_4.cell3, bb_4.cell4, bb_4.cell5⟩
        | fail)
      (first
        | (go_at_call 33; (with_reducible refine (max_u _ _ p p' (max p p') _ rfl ha_4 hx_4 la lx).mono ?_); rintro e w5 ⟨u5, rfl, z1, b5⟩; have ha_5 := ha_4.below b5; have hc_5 := hc_4.below b5; have hx_5 := hx_4.below b5; have hy_5 := hy_4.below b5; have ba_5 := ba_4.below b5 ba_4.lt; have bb_5 := bb_4.below b5 bb_4.lt; have br_5 := br_4.below b5 br_4.lt; have F5 := below_then F4 (Nat.le_refl _) b5)
        | (go_at_call 33; (with_reducible refine (max_u _ _ p p' (max p p') _ rfl ha_z0 hx_z0 la lx).mono ?_); rintro e w5 ⟨u5, rfl, z1, b5⟩; have ha_5 := ha_z0.below b5; have hc_5 := hc_z0.below b5; have hx_5 := hx_z0.below b5; have hy_5 := hy_z0.below b5; have ba_5 := ba_z0.below b5 ba_z0.lt; have bb_5 := bb_z0.below b5 bb_z0.lt; have br_5 := br_z0.below b5 br_z0.lt; have F5 := below_then F_z0 (Nat.le_refl _) b5; have zb_5 := zb_0.below b5 zb_0.lt)
        | (go_at_call 52; (with_reducible refine (min_u _ _ q q' (min q q') _ rfl hc_5 hy_5 lc ly).mono ?_); rintro e w6 ⟨u6, rfl, z2, b6⟩; have ha_6 := ha_5.below b6; have hc_6 := hc_5.below b6; have hx_6 := hx_5.below b6; have hy_6 := hy_5.below b6; have z1_6 := z1.below b6; have ba_6 := ba_5.below b6 ba_5.lt; have bb_6 := bb_5.below b6 bb_5.lt; have br_6 := br_5.below b6 br_5.lt; have F6 := below_then F5 (Nat.le_refl _) b6; have zb_6 := zb_5.below b6 zb_5.lt)
        | (go_at_call 52; (with_reducible refine (min_u _ _ q q' (min q q') _ rfl hc_5 hy_5 lc ly).mono ?_); rintro e w6 ⟨u6, rfl, z2, b6⟩; have ha_6 := ha_5.below b6; have hc_6 := hc_5.below b6; have hx_6 := hx_5.below b6; have hy_6 := hy_5.below b6; have z1_6 := z1.below b6; have ba_6 := ba_5.below b6 ba_5.lt; have bb_6 := bb_5.below b6 bb_5.lt; have br_6 := br_5.below b6 br_5.lt; have F6 := below_then F5 (Nat.le_refl _) b6)
        | (have ha_z6 := ha_5.alloc EV0; have hc_z6 := hc_5.alloc EV0; have hx_z6 := hx_5.alloc EV0; have hy_z6 := hy_5.alloc EV0; have z1_z6 := z1.alloc EV0; have ba_z6 := ba_5.alloc EV0; have bb_z6 := bb_5.alloc EV0; have br_z6 := br_5.alloc EV0; have lz_ba := Nat.ne_of_lt ba_5.lt; have lz_bb := Nat.ne_of_lt bb_5.lt; have lz_br := Nat.ne_of_lt br_5.lt; have gl := F5.size; have F_z6 := F5.alloc F5.size EV0; have zb_5 := S6.new (w5) (.bool false) (.slice none 0 0) (.slice none 0 0) (.bool false) (.slice none 0 0) (.slice none 0 0); go_at_call 52; (with_reducible refine (min_u _ _ q q' (min q q') _ rfl hc_z6 hy_z6 lc ly).mono ?_); rintro e w6 ⟨u6, rfl, z2, b6⟩; have ha_6 := ha_z6.below b6; have hc_6 := hc_z6.below b6; have hx_6 := hx_z6.below b6; have hy_6 := hy_z6.below b6; have z1_6 := z1_z6.below b6; have ba_6 := ba_z6.below b6 ba_z6.lt; have bb_6 := bb_z6.below b6 bb_z6.lt; have br_6 := br_z6.below b6 br_z6.lt; have F6 := below_then F_z6 (Nat.le_refl _) b6; have zb_6 := zb_5.below b6 zb_5.lt)
        | (go_at_call 12; (with_reducible refine (make_iv _ _ (max p p') (min q q') _ z1_6.iu z2.iu ((z1_6.len t1).mono k2) ((z2.len t2).mono k2) HL.out).mono ?_); rintro e w7 ⟨u7, v7, rfl, z3, z4, b7⟩; have ha_7 := ha_6.below b7; have hc_7 := hc_6.below b7; have hx_7 := hx_6.below b7; have hy_7 := hy_6.below b7; have z1_7 := z1_6.below b7; have z2_7 := z2.below b7; have ba_7 := ba_6.below b7 ba_6.lt; have bb_7 := bb_6.below b7 bb_6.lt; have br_7 := br_6.below b7 br_6.lt; have F7 := below_then F6 (Nat.le_refl _) b7; have zb_7 := zb_6.below b7 zb_6.lt; have zk7_0 := zb_7.cell0; have zk7_1 := zb_7.cell1; have zk7_2 := zb_7.cell2; have zk7_3 := zb_7.cell3; have zk7_4 := zb_7.cell4; have zk7_5 := zb_7.cell5; have zf7_0 := zb_7.frozen 0; have zf7_1 := zb_7.frozen 1; have zf7_2 := zb_7.frozen 2; have zf7_3 := zb_7.frozen 3; have zf7_4 := zb_7.frozen 4; have zf7_5 := zb_7.frozen 5)
        | (go_at_call 12; (with_reducible refine (make_iv _ _ (max p p') (min q q') _ z1_6.iu z2.iu ((z1_6.len t1).mono k2) ((z2.len t2).mono k2) HL.out).mono ?_); rintro e w7 ⟨u7, v7, rfl, z3, z4, b7⟩; have ha_7 := ha_6.below b7; have hc_7 := hc_6.below b7; have hx_7 := hx_6.below b7; have hy_7 := hy_6.below b7; have z1_7 := z1_6.below b7; have z2_7 := z2.below b7; have ba_7 := ba_6.below b7 ba_6.lt; have bb_7 := bb_6.below b7 bb_6.lt; have br_7 := br_6.below b7 br_6.lt; have F7 := below_then F6 (Nat.le_refl _) b7)
        | (have ha_z7 := ha_6.alloc EV0; have hc_z7 := hc_6.alloc EV0; have hx_z7 := hx_6.alloc EV0; have hy_z7 := hy_6.alloc EV0; have z1_z7 := z1_6.alloc EV0; have z2_z7 := z2.alloc EV0; have ba_z7 := ba_6.alloc EV0; have bb_z7 := bb_6.alloc EV0; have br_z7 := br_6.alloc EV0; have lz_ba := Nat.ne_of_lt ba_6.lt; have lz_bb := Nat.ne_of_lt bb_6.lt; have lz_br := Nat.ne_of_lt br_6.lt; have gl := F6.size; have F_z7 := F6.alloc F6.size EV0; have zb_6 := S6.new (w6) (.bool false) (.slice none 0 0) (.slice none 0 0) (.bool false) (.slice none 0 0) (.slice none 0 0); go_at_call 12; (with_reducible refine (make_iv _ _ (max p p') (min q q') _ z1_z7.iu z2_z7.iu ((z1_z7.len t1).mono k2) ((z2_z7.len t2).mono k2) HL.out).mono ?_); rintro e w7 ⟨u7, v7, rfl, z3, z4, b7⟩; have ha_7 := ha_z7.below b7; have hc_7 := hc_z7.below b7; have hx_7 := hx_z7.below b7; have hy_7 := hy_z7.below b7; have z1_7 := z1_z7.below b7; have z2_7 := z2_z7.below b7; have ba_7 := ba_z7.below b7 ba_z7.lt; have bb_7 := bb_z7.below b7 bb_z7.lt; have br_7 := br_z7.below b7 br_z7.lt; have F7 := below_then F_z7 (Nat.le_refl _) b7; have zb_7 := zb_6.below b7 zb_6.lt; have zk7_0 := zb_7.cell0; have zk7_1 := zb_7.cell1; have zk7_2 := zb_7.cell2; have zk7_3 := zb_7.cell3; have zk7_4 := zb_7.cell4; have zk7_5 := zb_7.cell5; have zf7_0 := zb_7.frozen 0; have zf7_1 := zb_7.frozen 1; have zf7_2 := zb_7.frozen 2; have zf7_3 := zb_7.frozen 3; have zf7_4 := zb_7.frozen 4; have zf7_5 := zb_7.frozen 5)
        | fail)
    all_goals (go_wp2_with fail; go_meet; first | exact ⟨_, _, u5, u6, u7, v7, rfl, rfl, rfl, zb_7.stor, gl, lz_ba, lz_bb, lz_br, ba_7.past6 lz_ba, bb_7.past6 lz_bb, br_7.past6 lz_br, ha_7.stor6 zb_7 (.bool u7.s) (.slice u7.A u7.n u7.c) (.slice u7.B u7.m u7.d) (.bool v7.s) (.slice v7.A v7.n v7.c) (.slice v7.B v7.m v7.d), hc_7.stor6 zb_7 (.bool u7.s) (.slice u7.A u7.n u7.c) (.slice u7.B u7.m u7.d) (.bool v7.s) (.slice v7.A v7.n v7.c) (.slice v7.B v7.m v7.d), hx_7.stor6 zb_7 (.bool u7.s) (.slice u7.A u7.n u7.c) (.slice u7.B u7.m u7.d) (.bool v7.s) (.slice v7.A v7.n v7.c) (.slice v7.B v7.m v7.d), hy_7.stor6 zb_7 (.bool u7.s) (.slice u7.A u7.n u7.c) (.slice u7.B u7.m u7.d) (.bool v7.s) (.slice v7.A v7.n v7.c) (.slice v7.B v7.m v7.d), z3.stor6 zb_7 (.bool u7.s) (.slice u7.A u7.n u7.c) (.slice u7.B u7.m u7.d) (.bool v7.s) (.slice v7.A v7.n v7.c) (.slice v7.B v7.m v7.d), z4.stor6 zb_7 (.bool u7.s) (.slice u7.A u7.n u7.c) (.slice u7.B u7.m u7.d) (.bool v7.s) (.slice v7.A v7.n v7.c) (.slice v7.B v7.m v7.d), below_six F7 gl⟩ | exact ⟨_, _, u5, u6, u7, v7, rfl, rfl, rfl, S6.new w7 (.bool u7.s) (.slice u7.A u7.n u7.c) (.slice u7.B u7.m u7.d) (.bool v7.s) (.slice v7.A v7.n v7.c) (.slice v7.B v7.m v7.d), F7.size, Nat.ne_of_lt ba_7.lt, Nat.ne_of_lt bb_7.lt, Nat.ne_of_lt br_7.lt, ba_7.alloc (EV u7 v7), bb_7.alloc (EV u7 v7), br_7.alloc (EV u7 v7), ha_7.alloc (EV u7 v7), hc_7.alloc (EV u7 v7), hx_7.alloc (EV u7 v7), hy_7.alloc (EV u7 v7), z3.alloc (EV u7 v7), z4.alloc (EV u7 v7), F7.alloc F7.size _⟩ | fail)
  case rest =>
    obtain ⟨wx3, g8, u5, u6, u7, v7, rfl, rfl, rfl, bm_08, gl_8, ne_bm_ba, ne_bm_bb, ne_bm_br, ba_8, bb_8, br_8, ha_8, hc_8, hx_8, hy_8, z3_8, z4_8, F8⟩ := hcut
    have bm_8 : Sv wx3 g8 u7 v7 := bm_08
    clear bm_08
    have ba_u8 := ba_8.cell0
    have ba_v8 := ba_8.cell1
    have ba_w8 := ba_8.cell2
    have ba_x8 := ba_8.cell3
    have ba_y8 := ba_8.cell4
    have ba_z8 := ba_8.cell5
    have bb_u8 := bb_8.cell0
    have bb_v8 := bb_8.cell1
    have bb_w8 := bb_8.cell2
    have bb_x8 := bb_8.cell3
    have bb_y8 := bb_8.cell4
    have bb_z8 := bb_8.cell5
    have br_u8 : (wx3).cell? ⟨w.heap.size + 2, 0, none⟩ = some (.bool false) := br_8.cell0
    have br_v8 : (wx3).cell? ⟨w.heap.size + 2, 1, none⟩ = some (.slice none 0 0) := br_8.cell1
    have br_w8 : (wx3).cell? ⟨w.heap.size + 2, 2, none⟩ = some (.slice none 0 0) := br_8.cell2
    have br_x8 : (wx3).cell? ⟨w.heap.size + 2, 3, none⟩ = some (.bool false) := br_8.cell3
    have br_y8 : (wx3).cell? ⟨w.heap.size + 2, 4, none⟩ = some (.slice none 0 0) := br_8.cell4
    have br_z8 : (wx3).cell? ⟨w.heap.size + 2, 5, none⟩ = some (.slice none 0 0) := br_8.cell5
    have bm_u8 := bm_8.cell0
    have bm_v8 := bm_8.cell1
    have bm_w8 := bm_8.cell2
    have bm_x8 := bm_8.cell3
    have bm_y8 := bm_8.cell4
    have bm_z8 := bm_8.cell5
    have br_f08 := br_8.frozen 0
    have br_f18 := br_8.frozen 1
    have br_f28 := br_8.frozen 2
    have br_f38 := br_8.frozen 3
    have br_f48 := br_8.frozen 4
    have br_f58 := br_8.frozen 5
    go_wp2_with fail
    refine bodyPost_ret (v := .tuple #[.agg #[.bool u7.s, .slice u7.A u7.n u7.c, .slice u7.B u7.m u7.d, .bool v7.s, .slice v7.A v7.n v7.c, .slice v7.B v7.m v7.d], .int .i64 0]) (by simp [results, Try.results37, go_sem, (Sv.stor br_8 u7 v7).cell0, (Sv.stor br_8 u7 v7).cell1, (Sv.stor br_8 u7 v7).cell2, (Sv.stor br_8 u7 v7).cell3, (Sv.stor br_8 u7 v7).cell4, (Sv.stor br_8 u7 v7).cell5]) rfl (gve_end 0 F8 (by omega) br_8 z3_8 z4_8)
theorem meet_no (a c x y : Rv) (p q p' q' : Rat) (w : World) (ha : Iu w a p) (hc : Iu w c q) (hx : Iu w x p') (hy : Iu w y q') (la : Lu 4000 a) (lc : Lu 4000 c) (lx : Lu 4000 x) (ly : Lu 4000 y) (sp : Qs 100 p) (sq : Qs 100 q) (sp' : Qs 100 p') (sq' : Qs 100 q') (hle : ¬ max p p' ≤ min q q') : Calls Try.prog 37 #[.agg #[.bool a.s, .slice a.A a.n a.c, .slice a.B a.m a.d, .bool c.s, .slice c.A c.n c.c, .slice c.B c.m c.d], .agg #[.bool x.s, .slice x.A x.n x.c, .slice x.B x.m x.d, .bool y.s, .slice y.A y.n y.c, .slice y.B y.m y.d]] w (GVE w 0 0 10) := by
  have t1 := qs_max sp sp'
  have t2 := qs_min sq sq'
  have k2 : 100 ≤ 4000 := by decide
  have HL := hide hle
  clear hle
  have ha_1 := ha.alloc (EV a c)
  have hc_1 := hc.alloc (EV a c)
  have hx_1 := hx.alloc (EV a c)
  have hy_1 := hy.alloc (EV a c)
  have ba_1 : Sv ((w).alloc (EV a c)) (w.heap.size) a c := by have h_ := Sv.new (w) a c; exact h_
  have F1 := (Below.refl w.heap.size w).alloc (Nat.le_refl _) (EV a c)
  have ha_2 := ha_1.alloc (EV x y)
  have hc_2 := hc_1.alloc (EV x y)
  have hx_2 := hx_1.alloc (EV x y)
  have hy_2 := hy_1.alloc (EV x y)
  have ba_2 := ba_1.alloc (EV x y)
  have bb_2 : Sv (((w).alloc (EV a c)).alloc (EV x y)) (w.heap.size + 1) x y := by have h_ := Sv.new ((w).alloc (EV a c)) x y; simp only [World.size_alloc] at h_; exact h_
  have F2 := F1.alloc F1.size (EV x y)
  have ha_3 := ha_2.alloc EV0
  have hc_3 := hc_2.alloc EV0
  have hx_3 := hx_2.alloc EV0
  have hy_3 := hy_2.alloc EV0
  have ba_3 := ba_2.alloc EV0
  have bb_3 := bb_2.alloc EV0
  have br_3 : Sv ((((w).alloc (EV a c)).alloc (EV x y)).alloc EV0) (w.heap.size + 2) Rv.zero Rv.zero := by have h_ := Sv.new (((w).alloc (EV a c)).alloc (EV x y)) Rv.zero Rv.zero; simp only [World.size_alloc] at h_; exact h_
  have F3 := F2.alloc F2.size EV0
  go_enter Try.func37, Try.ntmps37
  have ba_u3 := ba_3.cell0
  have ba_v3 := ba_3.cell1
  have ba_w3 := ba_3.cell2
  have ba_x3 := ba_3.cell3
  have ba_y3 := ba_3.cell4
  have ba_z3 := ba_3.cell5
  have bb_u3 := bb_3.cell0
  have bb_v3 := bb_3.cell1
  have bb_w3 := bb_3.cell2
  have bb_x3 := bb_3.cell3
  have bb_y3 := bb_3.cell4
  have bb_z3 := bb_3.cell5
  have br_u3 : ((((w).alloc (EV a c)).alloc (EV x y)).alloc EV0).cell? ⟨w.heap.size + 2, 0, none⟩ = some (.bool false) := br_3.cell0
  have br_v3 : ((((w).alloc (EV a c)).alloc (EV x y)).alloc EV0).cell? ⟨w.heap.size + 2, 1, none⟩ = some (.slice none 0 0) := br_3.cell1
  have br_w3 : ((((w).alloc (EV a c)).alloc (EV x y)).alloc EV0).cell? ⟨w.heap.size + 2, 2, none⟩ = some (.slice none 0 0) := br_3.cell2
  have br_x3 : ((((w).alloc (EV a c)).alloc (EV x y)).alloc EV0).cell? ⟨w.heap.size + 2, 3, none⟩ = some (.bool false) := br_3.cell3
  have br_y3 : ((((w).alloc (EV a c)).alloc (EV x y)).alloc EV0).cell? ⟨w.heap.size + 2, 4, none⟩ = some (.slice none 0 0) := br_3.cell4
  have br_z3 : ((((w).alloc (EV a c)).alloc (EV x y)).alloc EV0).cell? ⟨w.heap.size + 2, 5, none⟩ = some (.slice none 0 0) := br_3.cell5
  go_upto_region 1 with fail
  go_cut [6, 7] (fun sx3 ev wy => ∃ (wx3 : World) (g : Nat) (u5 : Rv) (u6 : Rv) (u7 : Rv) (v7 : Rv), wx3 = wy ∧ sx3 = .pointer (some ⟨g, 0, none⟩) ∧ ev = .int .i64 2 ∧ S6 wx3 g (.bool u7.s) (.slice u7.A u7.n u7.c) (.slice u7.B u7.m u7.d) (.bool v7.s) (.slice v7.A v7.n v7.c) (.slice v7.B v7.m v7.d) ∧ w.heap.size ≤ g ∧ w.heap.size ≠ g ∧ w.heap.size + 1 ≠ g ∧ w.heap.size + 2 ≠ g ∧ Sv wx3 (w.heap.size) a c ∧ Sv wx3 (w.heap.size + 1) x y ∧ Sv wx3 (w.heap.size + 2) Rv.zero Rv.zero ∧ Iu wx3 a p ∧ Iu wx3 c q ∧ Iu wx3 x p' ∧ Iu wx3 y q' ∧ Cu wx3 u7 0 ∧ Cu wx3 v7 0 ∧ Below w.heap.size w wx3)
  case first =>
    have le1_ : w.heap.size ≠ w.heap.size + 1 := by omega
    have lf1_ := Ne.symm le1_
    have le2_ : w.heap.size ≠ w.heap.size + 1 + 1 := by omega
    have lf2_ := Ne.symm le2_
    have le3_ : w.heap.size ≠ w.heap.size + 1 + 1 + 1 := by omega
    have lf3_ := Ne.symm le3_
    have le4_ : w.heap.size ≠ w.heap.size + 1 + 1 + 1 + 1 := by omega
    have lf4_ := Ne.symm le4_
    have ha_4 := ha_3.drew
    have hc_4 := hc_3.drew
    have hx_4 := hx_3.drew
    have hy_4 := hy_3.drew
    have ba_4 := ba_3.drew
    have bb_4 := bb_3.drew
    have br_4 := br_3.drew
    have F4 := F3.drew
    have ha_z0 := (ha_3.alloc EV0).drew
    have hc_z0 := (hc_3.alloc EV0).drew
    have hx_z0 := (hx_3.alloc EV0).drew
    have hy_z0 := (hy_3.alloc EV0).drew
    have ba_z0 := (ba_3.alloc EV0).drew
    have bb_z0 := (bb_3.alloc EV0).drew
    have br_z0 := (br_3.alloc EV0).drew
    have lz_ba : w.heap.size ≠ w.heap.size + 3 := by omega
    have lz_bb : w.heap.size + 1 ≠ w.heap.size + 3 := by omega
    have lz_br : w.heap.size + 2 ≠ w.heap.size + 3 := by omega
    have gl : w.heap.size ≤ w.heap.size + 3 := by omega
    have F_z0 := (F3.alloc F3.size EV0).drew
    have zb_0 : S6 (((((w).alloc (EV a c)).alloc (EV x y)).alloc EV0).alloc EV0).drew (w.heap.size + 3) (.bool false) (.slice none 0 0) (.slice none 0 0) (.bool false) (.slice none 0 0) (.slice none 0 0) := by have h_ := S6.new ((((w).alloc (EV a c)).alloc (EV x y)).alloc EV0) (.bool false) (.slice none 0 0) (.slice none 0 0) (.bool false) (.slice none 0 0) (.slice none 0 0); simp only [World.size_alloc] at h_; exact h_.drew
    go_region_held3 (fun w' => w'.cell? ⟨w.heap.size, 0, none⟩ = some (.bool a.s) ∧ w'.cell? ⟨w.heap.size, 1, none⟩ = some (.slice a.A a.n a.c) ∧ w'.cell? ⟨w.heap.size, 2, none⟩ = some (.slice a.B a.m a.d) ∧ w'.cell? ⟨w.heap.size, 3, none⟩ = some (.bool c.s) ∧ w'.cell? ⟨w.heap.size, 4, none⟩ = some (.slice c.A c.n c.c) ∧ w'.cell? ⟨w.heap.size, 5, none⟩ = some (.slice c.B c.m c.d) ∧ w'.cell? ⟨w.heap.size + 1, 0, none⟩ = some (.bool x.s) ∧ w'.cell? ⟨w.heap.size + 1, 1, none⟩ = some (.slice x.A x.n x.c) ∧ w'.cell? ⟨w.heap.size + 1, 2, none⟩ = some (.slice x.B x.m x.d) ∧ w'.cell? ⟨w.heap.size + 1, 3, none⟩ = some (.bool y.s) ∧ w'.cell? ⟨w.heap.size + 1, 4, none⟩ = some (.slice y.A y.n y.c) ∧ w'.cell? ⟨w.heap.size + 1, 5, none⟩ = some (.slice y.B y.m y.d))
      (first
        | with_reducible exact ⟨(ba_7.alloc (EV u7 v7)).cell0, (ba_7.alloc (EV u7 v7)).cell1, (ba_7.alloc (EV u7 v7)).cell2, (ba_7.alloc (EV u7 v7)).cell3, (ba_7.alloc (EV u7 v7)).cell4, (ba_7.alloc (EV u7 v7)).cell5, (bb_7.alloc (EV u7 v7)).cell0, (bb_7.alloc (EV u7 v7)).cell1, (bb_7.alloc (EV u7 v7)).cell2, (bb_7.alloc (EV u7 v7)).cell3, (bb_7.alloc (EV u7 v7)).cell4, (bb_7.alloc (EV u7 v7)).cell5⟩
        | with_reducible exact ⟨(ba_7.past6 (u0 := .bool u7.s) (u1 := .slice u7.A u7.n u7.c) (u2 := .slice u7.B u7.m u7.d) (u3 := .bool v7.s) (u4 := .slice v7.A v7.n v7.c) (u5 := .slice v7.B v7.m v7.d) lz_ba).cell0, (ba_7.past6 (u0 := .bool u7.s) (u1 := .slice u7.A u7.n u7.c) (u2 := .slice u7.B u7.m u7.d) (u3 := .bool v7.s) (u4 := .slice v7.A v7.n v7.c) (u5 := .slice v7.B v7.m v7.d) lz_ba).cell1, (ba_7.past6 (u0 := .bool u7.s) (u1 := .slice u7.A u7.n u7.c) (u2 := .slice u7.B u7.m u7.d) (u3 := .bool v7.s) (u4 := .slice v7.A v7.n v7.c) (u5 := .slice v7.B v7.m v7.d) lz_ba).cell2, (ba_7.past6 (u0 := .bool u7.s) (u1 := .slice u7.A u7.n u7.c) (u2 := .slice u7.B u7.m u7.d) (u3 := .bool v7.s) (u4 := .slice v7.A v7.n v7.c) (u5 := .slice v7.B v7.m v7.d) lz_ba).cell3, (ba_7.past6 (u0 := .bool u7.s) (u1 := .slice u7.A u7.n u7.c) (u2 := .slice u7.B u7.m u7.d) (u3 := .bool v7.s) (u4 := .slice v7.A v7.n v7.c) (u5 := .slice v7.B v7.m v7.d) lz_ba).cell4, (ba_7.past6 (u0 := .bool u7.s) (u1 := .slice u7.A u7.n u7.c) (u2 := .slice u7.B u7.m u7.d) (u3 := .bool v7.s) (u4 := .slice v7.A v7.n v7.c) (u5 := .slice v7.B v7.m v7.d) lz_ba).cell5, (bb_7.past6 (u0 := .bool u7.s) (u1 := .slice u7.A u7.n u7.c) (u2 := .slice u7.B u7.m u7.d) (u3 := .bool v7.s) (u4 := .slice v7.A v7.n v7.c) (u5 := .slice v7.B v7.m v7.d) lz_bb).cell0, (bb_7.past6 (u0 := .bool u7.s) (u1 := .slice u7.A u7.n u7.c) (u2 := .slice u7.B u7.m u7.d) (u3 := .bool v7.s) (u4 := .slice v7.A v7.n v7.c) (u5 := .slice v7.B v7.m v7.d) lz_bb).cell1, (bb_7.past6 (u0 := .bool u7.s) (u1 := .slice u7.A u7.n u7.c) (u2 := .slice u7.B u7.m u7.d) (u3 := .bool v7.s) (u4 := .slice v7.A v7.n v7.c) (u5 := .slice v7.B v7.m v7.d) lz_bb).cell2, (bb_7.past6 (u0 := .bool u7.s) (u1 := .slice u7.A u7.n u7.c) (u2 := .slice u7.B u7.m u7.d) (u3 := .bool v7.s) (u4 := .slice v7.A v7.n v7.c) (u5 := .slice v7.B v7.m v7.d) lz_bb).cell3, (bb_7.past6 (u0 := .bool u7.s) (u1 := .slice u7.A u7.n u7.c) (u2 := .slice u7.B u7.m u7.d) (u3 := .bool v7.s) (u4 := .slice v7.A v7.n v7.c) (u5 := .slice v7.B v7.m v7.d) lz_bb).cell4, (bb_7.past6 (u0 := .bool u7.s) (u1 := .slice u7.A u7.n u7.c) (u2 := .slice u7.B u7.m u7.d) (u3 := .bool v7.s) (u4 := .slice v7.A v7.n v7.c) (u5 := .slice v7.B v7.m v7.d) lz_bb).cell5⟩
        | with_reducible exact ⟨(ba_7.alloc EV0).cell0, (ba_7.alloc EV0).cell1, (ba_7.alloc EV0).cell2, (ba_7.alloc EV0).cell3, (ba_7.alloc EV0).cell4, (ba_7.alloc EV0).cell5, (bb_7.alloc EV0).cell0, (bb_7.alloc EV0).cell1, (bb_7.alloc EV0).cell2, (bb_7.alloc EV0).cell3, (bb_7.alloc EV0).cell4, (bb_7.alloc EV0).cell5⟩
        | with_reducible exact ⟨ba_7.cell0, ba_7.cell1, ba_7.cell2, ba_7.cell3, ba_7.cell4, ba_7.cell5, bb_7.cell0, bb_7.cell1, bb_7.cell2, bb_7.cell3, bb_7.cell4, bb_7.cell5⟩
        | with_reducible exact ⟨(ba_6.alloc EV0).cell0, (ba_6.alloc EV0).cell1, (ba_6.alloc EV0).cell2, (ba_6.alloc EV0).cell3, (ba_6.alloc EV0).cell4, (ba_6.alloc EV0).cell5, (bb_6.alloc EV0).cell0, (bb_6.alloc EV0).cell1, (bb_6.alloc EV0).cell2, (bb_6.alloc EV0).cell3, (bb_6.alloc EV0).cell4, (bb_6.alloc EV0).cell5⟩
        | with_reducible exact ⟨ba_6.cell0, ba_6.cell1, ba_6.cell2, ba_6.cell3, ba_6.cell4, ba_6.cell5, bb_6.cell0, bb_6.cell1, bb_6.cell2, bb_6.cell3, bb_6.cell4, bb_6.cell5⟩
        | with_reducible exact ⟨(ba_5.alloc EV0).cell0, (ba_5.alloc EV0).cell1, (ba_5.alloc EV0).cell2, (ba_5.alloc EV0).cell3, (ba_5.alloc EV0).cell4, (ba_5.alloc EV0).cell5, (bb_5.alloc EV0).cell0, (bb_5.alloc EV0).cell1, (bb_5.alloc EV0).cell2, (bb_5.alloc EV0).cell3, (bb_5.alloc EV0).cell4, (bb_5.alloc EV0).cell5⟩
        | with_reducible exact ⟨ba_5.cell0, ba_5.cell1, ba_5.cell2, ba_5.cell3, ba_5.cell4, ba_5.cell5, bb_5.cell0, bb_5.cell1, bb_5.cell2, bb_5.cell3, bb_5.cell4, bb_5.cell5⟩
        | with_reducible exact ⟨ba_z0.cell0, ba_z0.cell1, ba_z0.cell2, ba_z0.cell3, ba_z0.cell4, ba_z0.cell5, bb_z0.cell0, bb_z0.cell1, bb_z0.cell2, bb_z0.cell3, bb_z0.cell4, bb_z0.cell5⟩
        | with_reducible exact ⟨ba_4.cell0, ba_4.cell1, ba_4.cell2, ba_4.cell3, ba_4.cell4, ba_4.cell5, bb_4.cell0, bb_4.cell1, bb_4.cell2, bb_4.cell3, bb_4.cell4, bb_4.cell5⟩
        | fail)
      (first
        | (go_at_call 33; (with_reducible refine (max_u _ _ p p' (max p p') _ rfl ha_4 hx_4 la lx).mono ?_); rintro e w5 ⟨u5, rfl, z1, b5⟩; have ha_5 := ha_4.below b5; have hc_5 := hc_4.below b5; have hx_5 := hx_4.below b5; have hy_5 := hy_4.below b5; have ba_5 := ba_4.below b5 ba_4.lt; have bb_5 := bb_4.below b5 bb_4.lt; have br_5 := br_4.below b5 br_4.lt; have F5 := below_then F4 (Nat.le_refl _) b5)
        | (go_at_call 33; (with_reducible refine (max_u _ _ p p' (max p p') _ rfl ha_z0 hx_z0 la lx).mono ?_); rintro e w5 ⟨u5, rfl, z1, b5⟩; have ha_5 := ha_z0.below b5; have hc_5 := hc_z0.below b5; have hx_5 := hx_z0.below b5; have hy_5 := hy_z0.below b5; have ba_5 := ba_z0.below b5 ba_z0.lt; have bb_5 := bb_z0.below b5 bb_z0.lt; have br_5 := br_z0.below b5 br_z0.lt; have F5 := below_then F_z0 (Nat.le_refl _) b5; have zb_5 := zb_0.below b5 zb_0.lt)
        | (go_at_call 52; (with_reducible refine (min_u _ _ q q' (min q q') _ rfl hc_5 hy_5 lc ly).mono ?_); rintro e w6 ⟨u6, rfl, z2, b6⟩; have ha_6 := ha_5.below b6; have hc_6 := hc_5.below b6; have hx_6 := hx_5.below b6; have hy_6 := hy_5.below b6; have z1_6 := z1.below b6; have ba_6 := ba_5.below b6 ba_5.lt; have bb_6 := bb_5.below b6 bb_5.lt; have br_6 := br_5.below b6 br_5.lt; have F6 := below_then F5 (Nat.le_refl _) b6; have zb_6 := zb_5.below b6 zb_5.lt)
        | (go_at_call 52; (with_reducible refine (min_u _ _ q q' (min q q') _ rfl hc_5 hy_5 lc ly).mono ?_); rintro e w6 ⟨u6, rfl, z2, b6⟩; have ha_6 := ha_5.below b6; have hc_6 := hc_5.below b6; have hx_6 := hx_5.below b6; have hy_6 := hy_5.below b6; have z1_6 := z1.below b6; have ba_6 := ba_5.below b6 ba_5.lt; have bb_6 := bb_5.below b6 bb_5.lt; have br_6 := br_5.below b6 br_5.lt; have F6 := below_then F5 (Nat.le_refl _) b6)
        | (have ha_z6 := ha_5.alloc EV0; have hc_z6 := hc_5.alloc EV0; have hx_z6 := hx_5.alloc EV0; have hy_z6 := hy_5.alloc EV0; have z1_z6 := z1.alloc EV0; have ba_z6 := ba_5.alloc EV0; have bb_z6 := bb_5.alloc EV0; have br_z6 := br_5.alloc EV0; have lz_ba := Nat.ne_of_lt ba_5.lt; have lz_bb := Nat.ne_of_lt bb_5.lt; have lz_br := Nat.ne_of_lt br_5.lt; have gl := F5.size; have F_z6 := F5.alloc F5.size EV0; have zb_5 := S6.new (w5) (.bool false) (.slice none 0 0) (.slice none 0 0) (.bool false) (.slice none 0 0) (.slice none 0 0); go_at_call 52; (with_reducible refine (min_u _ _ q q' (min q q') _ rfl hc_z6 hy_z6 lc ly).mono ?_); rintro e w6 ⟨u6, rfl, z2, b6⟩; have ha_6 := ha_z6.below b6; have hc_6 := hc_z6.below b6; have hx_6 := hx_z6.below b6; have hy_6 := hy_z6.below b6; have z1_6 := z1_z6.below b6; have ba_6 := ba_z6.below b6 ba_z6.lt; have bb_6 := bb_z6.below b6 bb_z6.lt; have br_6 := br_z6.below b6 br_z6.lt; have F6 := below_then F_z6 (Nat.le_refl _) b6; have zb_6 := zb_5.below b6 zb_5.lt)
        | (go_at_call 12; (with_reducible refine (make_no _ _ (max p p') (min q q') _ z1_6.iu z2.iu ((z1_6.len t1).mono k2) ((z2.len t2).mono k2) HL.out).mono ?_); rintro e w7 ⟨u7, v7, rfl, z3, z4, b7⟩; have ha_7 := ha_6.below b7; have hc_7 := hc_6.below b7; have hx_7 := hx_6.below b7; have hy_7 := hy_6.below b7; have z1_7 := z1_6.below b7; have z2_7 := z2.below b7; have ba_7 := ba_6.below b7 ba_6.lt; have bb_7 := bb_6.below b7 bb_6.lt; have br_7 := br_6.below b7 br_6.lt; have F7 := below_then F6 (Nat.le_refl _) b7; have zb_7 := zb_6.below b7 zb_6.lt; have zk7_0 := zb_7.cell0; have zk7_1 := zb_7.cell1; have zk7_2 := zb_7.cell2; have zk7_3 := zb_7.cell3; have zk7_4 := zb_7.cell4; have zk7_5 := zb_7.cell5; have zf7_0 := zb_7.frozen 0; have zf7_1 := zb_7.frozen 1; have zf7_2 := zb_7.frozen 2; have zf7_3 := zb_7.frozen 3; have zf7_4 := zb_7.frozen 4; have zf7_5 := zb_7.frozen 5)
        | (go_at_call 12; (with_reducible refine (make_no _ _ (max p p') (min q q') _ z1_6.iu z2.iu ((z1_6.len t1).mono k2) ((z2.len t2).mono k2) HL.out).mono ?_); rintro e w7 ⟨u7, v7, rfl, z3, z4, b7⟩; have ha_7 := ha_6.below b7; have hc_7 := hc_6.below b7; have hx_7 := hx_6.below b7; have hy_7 := hy_6.below b7; have z1_7 := z1_6.below b7; have z2_7 := z2.below b7; have ba_7 := ba_6.below b7 ba_6.lt; have bb_7 := bb_6.below b7 bb_6.lt; have br_7 := br_6.below b7 br_6.lt; have F7 := below_then F6 (Nat.le_refl _) b7)
        | (have ha_z7 := ha_6.alloc EV0; have hc_z7 := hc_6.alloc EV0; have hx_z7 := hx_6.alloc EV0; have hy_z7 := hy_6.alloc EV0; have z1_z7 := z1_6.alloc EV0; have z2_z7 := z2.alloc EV0; have ba_z7 := ba_6.alloc EV0; have bb_z7 := bb_6.alloc EV0; have br_z7 := br_6.alloc EV0; have lz_ba := Nat.ne_of_lt ba_6.lt; have lz_bb := Nat.ne_of_lt bb_6.lt; have lz_br := Nat.ne_of_lt br_6.lt; have gl := F6.size; have F_z7 := F6.alloc F6.size EV0; have zb_6 := S6.new (w6) (.bool false) (.slice none 0 0) (.slice none 0 0) (.bool false) (.slice none 0 0) (.slice none 0 0); go_at_call 12; (with_reducible refine (make_no _ _ (max p p') (min q q') _ z1_z7.iu z2_z7.iu ((z1_z7.len t1).mono k2) ((z2_z7.len t2).mono k2) HL.out).mono ?_); rintro e w7 ⟨u7, v7, rfl, z3, z4, b7⟩; have ha_7 := ha_z7.below b7; have hc_7 := hc_z7.below b7; have hx_7 := hx_z7.below b7; have hy_7 := hy_z7.below b7; have z1_7 := z1_z7.below b7; have z2_7 := z2_z7.below b7; have ba_7 := ba_z7.below b7 ba_z7.lt; have bb_7 := bb_z7.below b7 bb_z7.lt; have br_7 := br_z7.below b7 br_z7.lt; have F7 := below_then F_z7 (Nat.le_refl _) b7; have zb_7 := zb_6.below b7 zb_6.lt; have zk7_0 := zb_7.cell0; have zk7_1 := zb_7.cell1; have zk7_2 := zb_7.cell2; have zk7_3 := zb_7.cell3; have zk7_4 := zb_7.cell4; have zk7_5 := zb_7.cell5; have zf7_0 := zb_7.frozen 0; have zf7_1 := zb_7.frozen 1; have zf7_2 := zb_7.frozen 2; have zf7_3 := zb_7.frozen 3; have zf7_4 := zb_7.frozen 4; have zf7_5 := zb_7.frozen 5)
        | fail)
    all_goals (go_wp2_with fail; go_meet; first | exact ⟨_, _, u5, u6, u7, v7, rfl, rfl, rfl, zb_7.stor, gl, lz_ba, lz_bb, lz_br, ba_7.past6 lz_ba, bb_7.past6 lz_bb, br_7.past6 lz_br, ha_7.stor6 zb_7 (.bool u7.s) (.slice u7.A u7.n u7.c) (.slice u7.B u7.m u7.d) (.bool v7.s) (.slice v7.A v7.n v7.c) (.slice v7.B v7.m v7.d), hc_7.stor6 zb_7 (.bool u7.s) (.slice u7.A u7.n u7.c) (.slice u7.B u7.m u7.d) (.bool v7.s) (.slice v7.A v7.n v7.c) (.slice v7.B v7.m v7.d), hx_7.stor6 zb_7 (.bool u7.s) (.slice u7.A u7.n u7.c) (.slice u7.B u7.m u7.d) (.bool v7.s) (.slice v7.A v7.n v7.c) (.slice v7.B v7.m v7.d), hy_7.stor6 zb_7 (.bool u7.s) (.slice u7.A u7.n u7.c) (.slice u7.B u7.m u7.d) (.bool v7.s) (.slice v7.A v7.n v7.c) (.slice v7.B v7.m v7.d), z3.stor6 zb_7 (.bool u7.s) (.slice u7.A u7.n u7.c) (.slice u7.B u7.m u7.d) (.bool v7.s) (.slice v7.A v7.n v7.c) (.slice v7.B v7.m v7.d), z4.stor6 zb_7 (.bool u7.s) (.slice u7.A u7.n u7.c) (.slice u7.B u7.m u7.d) (.bool v7.s) (.slice v7.A v7.n v7.c) (.slice v7.B v7.m v7.d), below_six F7 gl⟩ | exact ⟨_, _, u5, u6, u7, v7, rfl, rfl, rfl, S6.new w7 (.bool u7.s) (.slice u7.A u7.n u7.c) (.slice u7.B u7.m u7.d) (.bool v7.s) (.slice v7.A v7.n v7.c) (.slice v7.B v7.m v7.d), F7.size, Nat.ne_of_lt ba_7.lt, Nat.ne_of_lt bb_7.lt, Nat.ne_of_lt br_7.lt, ba_7.alloc (EV u7 v7), bb_7.alloc (EV u7 v7), br_7.alloc (EV u7 v7), ha_7.alloc (EV u7 v7), hc_7.alloc (EV u7 v7), hx_7.alloc (EV u7 v7), hy_7.alloc (EV u7 v7), z3.alloc (EV u7 v7), z4.alloc (EV u7 v7), F7.alloc F7.size _⟩ | fail)
  case rest =>
    obtain ⟨wx3, g8, u5, u6, u7, v7, rfl, rfl, rfl, bm_08, gl_8, ne_bm_ba, ne_bm_bb, ne_bm_br, ba_8, bb_8, br_8, ha_8, hc_8, hx_8, hy_8, z3_8, z4_8, F8⟩ := hcut
    have bm_8 : Sv wx3 g8 u7 v7 := bm_08
    clear bm_08
    have ba_u8 := ba_8.cell0
    have ba_v8 := ba_8.cell1
    have ba_w8 := ba_8.cell2
    have ba_x8 := ba_8.cell3
    have ba_y8 := ba_8.cell4
    have ba_z8 := ba_8.cell5
    have bb_u8 := bb_8.cell0
    have bb_v8 := bb_8.cell1
    have bb_w8 := bb_8.cell2
    have bb_x8 := bb_8.cell3
    have bb_y8 := bb_8.cell4
    have bb_z8 := bb_8.cell5
    have br_u8 : (wx3).cell? ⟨w.heap.size + 2, 0, none⟩ = some (.bool false) := br_8.cell0
    have br_v8 : (wx3).cell? ⟨w.heap.size + 2, 1, none⟩ = some (.slice none 0 0) := br_8.cell1
    have br_w8 : (wx3).cell? ⟨w.heap.size + 2, 2, none⟩ = some (.slice none 0 0) := br_8.cell2
    have br_x8 : (wx3).cell? ⟨w.heap.size + 2, 3, none⟩ = some (.bool false) := br_8.cell3
    have br_y8 : (wx3).cell? ⟨w.heap.size + 2, 4, none⟩ = some (.slice none 0 0) := br_8.cell4
    have br_z8 : (wx3).cell? ⟨w.heap.size + 2, 5, none⟩ = some (.slice none 0 0) := br_8.cell5
    have bm_u8 := bm_8.cell0
    have bm_v8 := bm_8.cell1
    have bm_w8 := bm_8.cell2
    have bm_x8 := bm_8.cell3
    have bm_y8 := bm_8.cell4
    have bm_z8 := bm_8.cell5
    have br_f08 := br_8.frozen 0
    have br_f18 := br_8.frozen 1
    have br_f28 := br_8.frozen 2
    have br_f38 := br_8.frozen 3
    have br_f48 := br_8.frozen 4
    have br_f58 := br_8.frozen 5
    go_wp2_with fail
    refine bodyPost_ret (v := .tuple #[.agg #[.bool false, .slice none 0 0, .slice none 0 0, .bool false, .slice none 0 0, .slice none 0 0], .int .i64 10]) (by simp [results, Try.results37, go_sem, (Sv.stor br_8 Rv.zero Rv.zero).cell0, (Sv.stor br_8 Rv.zero Rv.zero).cell1, (Sv.stor br_8 Rv.zero Rv.zero).cell2, (Sv.stor br_8 Rv.zero Rv.zero).cell3, (Sv.stor br_8 Rv.zero Rv.zero).cell4, (Sv.stor br_8 Rv.zero Rv.zero).cell5]) rfl (gve_end 10 F8 (by omega) br_8 (cu_zero _) (cu_zero _))
end Go.Proofs.Ytnddhohjfjlaiaa
