/-
  The program's interval: Add, Join, Neg, Relu, Make.
-/
import Derived.Test.YtnddhohjfjlaiaaX2
import Derived.Test.YtnddhohjfjlaiaaV3
namespace Go.Proofs.Ytnddhohjfjlaiaa
open Go.RowKit
set_option linter.unusedVariables false
set_option linter.unusedSimpArgs false

theorem padd_iv (a c x y : Rv) (p q p' q' : Rat) (w : World) (ha : Iu w a p) (hc : Iu w c q) (hx : Iu w x p') (hy : Iu w y q') (la : Lu 4000 a) (lc : Lu 4000 c) (lx : Lu 4000 x) (ly : Lu 4000 y) : Calls Try.prog 19 #[.agg #[.bool a.s, .slice a.A a.n a.c, .slice a.B a.m a.d, .bool c.s, .slice c.A c.n c.c, .slice c.B c.m c.d], .agg #[.bool x.s, .slice x.A x.n x.c, .slice x.B x.m x.d, .bool y.s, .slice y.A y.n y.c, .slice y.B y.m y.d]] w (GV w (p + p') (q + q')) := by
  have ha_1 := ha.alloc (EV a c)
  have hc_1 := hc.alloc (EV a c)
  have hx_1 := hx.alloc (EV a c)
  have hy_1 := hy.alloc (EV a c)
  have ba_1 : Sv ((w).alloc (EV a c)) (w.heap.size) a c := by have h_ := Sv.new (w) a c; exact h_
  have F1 := (Below.refl w.heap.size w).alloc (Nat.le_refl _) (EV a c)
  have ha_2 := ha_1.alloc (EV x y)
  have hc_2 := hc_1.alloc (EV x y)
  have hx_2 := hx_1.alloc (EV x y)
  have hy_2 := hy_1.alloc (EV x y)
  have ba_2 := ba_1.alloc (EV x y)
  have bb_2 : Sv (((w).alloc (EV a c)).alloc (EV x y)) (w.heap.size + 1) x y := by have h_ := Sv.new ((w).alloc (EV a c)) x y; simp only [World.size_alloc] at h_; exact h_
  have F2 := F1.alloc F1.size (EV x y)
  have ha_3 := ha_2.alloc EV0
  have hc_3 := hc_2.alloc EV0
  have hx_3 := hx_2.alloc EV0
  have hy_3 := hy_2.alloc EV0
  have ba_3 := ba_2.alloc EV0
  have bb_3 := bb_2.alloc EV0
  have br_3 : Sv ((((w).alloc (EV a c)).alloc (EV x y)).alloc EV0) (w.heap.size + 2) Rv.zero Rv.zero := by have h_ := Sv.new (((w).alloc (EV a c)).alloc (EV x y)) Rv.zero Rv.zero; simp only [World.size_alloc] at h_; exact h_
  have F3 := F2.alloc F2.size EV0
  go_enter Try.func19, Try.ntmps19
  have ba_u3 := ba_3.cell0
  have ba_v3 := ba_3.cell1
  have ba_w3 := ba_3.cell2
  have ba_x3 := ba_3.cell3
  have ba_y3 := ba_3.cell4
  have ba_z3 := ba_3.cell5
  have bb_u3 := bb_3.cell0
  have bb_v3 := bb_3.cell1
  have bb_w3 := bb_3.cell2
  have bb_x3 := bb_3.cell3
  have bb_y3 := bb_3.cell4
  have bb_z3 := bb_3.cell5
  have br_u3 : ((((w).alloc (EV a c)).alloc (EV x y)).alloc EV0).cell? ⟨w.heap.size + 2, 0, none⟩ = some (.bool false) := br_3.cell0
  have br_v3 : ((((w).alloc (EV a c)).alloc (EV x y)).alloc EV0).cell? ⟨w.heap.size + 2, 1, none⟩ = some (.slice none 0 0) := br_3.cell1
  have br_w3 : ((((w).alloc (EV a c)).alloc (EV x y)).alloc EV0).cell? ⟨w.heap.size + 2, 2, none⟩ = some (.slice none 0 0) := br_3.cell2
  have br_x3 : ((((w).alloc (EV a c)).alloc (EV x y)).alloc EV0).cell? ⟨w.heap.size + 2, 3, none⟩ = some (.bool false) := br_3.cell3
  have br_y3 : ((((w).alloc (EV a c)).alloc (EV x y)).alloc EV0).cell? ⟨w.heap.size + 2, 4, none⟩ = some (.slice none 0 0) := br_3.cell4
  have br_z3 : ((((w).alloc (EV a c)).alloc (EV x y)).alloc EV0).cell? ⟨w.heap.size + 2, 5, none⟩ = some (.slice none 0 0) := br_3.cell5
  go_wp2_with fail
  have ha_4 := ha_3.drew
  have hc_4 := hc_3.drew
  have hx_4 := hx_3.drew
  have hy_4 := hy_3.drew
  have ba_4 := ba_3.drew
  have bb_4 := bb_3.drew
  have br_4 := br_3.drew
  have F4 := F3.drew
  go_region_held3 (fun w' => w'.cell? ⟨w.heap.size, 0, none⟩ = some (.bool a.s) ∧ w'.cell? ⟨w.heap.size, 1, none⟩ = some (.slice a.A a.n a.c) ∧ w'.cell? ⟨w.heap.size, 2, none⟩ = some (.slice a.B a.m a.d) ∧ w'.cell? ⟨w.heap.size, 3, none⟩ = some (.bool c.s) ∧ w'.cell? ⟨w.heap.size, 4, none⟩ = some (.slice c.A c.n c.c) ∧ w'.cell? ⟨w.heap.size, 5, none⟩ = some (.slice c.B c.m c.d) ∧ w'.cell? ⟨w.heap.size + 1, 0, none⟩ = some (.bool x.s) ∧ w'.cell? ⟨w.heap.size + 1, 1, none⟩ = some (.slice x.A x.n x.c) ∧ w'.cell? ⟨w.heap.size + 1, 2, none⟩ = some (.slice x.B x.m x.d) ∧ w'.cell? ⟨w.heap.size + 1, 3, none⟩ = some (.bool y.s) ∧ w'.cell? ⟨w.heap.size + 1, 4, none⟩ = some (.slice y.A y.n y.c) ∧ w'.cell? ⟨w.heap.size + 1, 5, none⟩ = some (.slice y.B y.m y.d))
    (first
      | with_reducible exact ⟨ba_p.cell0, ba_p.cell1, ba_p.cell2, ba_p.cell3, ba_p.cell4, ba_p.cell5, bb_p.cell0, bb_p.cell1, bb_p.cell2, bb_p.cell3, bb_p.cell4, bb_p.cell5⟩
      | with_reducible exact ⟨ba_6.cell0, ba_6.cell1, ba_6.cell2, ba_6.cell3, ba_6.cell4, ba_6.cell5, bb_6.cell0, bb_6.cell1, bb_6.cell2, bb_6.cell3, bb_6.cell4, bb_6.cell5⟩
      | with_reducible exact ⟨ba_5.cell0, ba_5.cell1, ba_5.cell2, ba_5.cell3, ba_5.cell4, ba_5.cell5, bb_5.cell0, bb_5.cell1, bb_5.cell2, bb_5.cell3, bb_5.cell4, bb_5.cell5⟩
      | with_reducible exact ⟨ba_4.cell0, ba_4.cell1, ba_4.cell2, ba_4.cell3, ba_4.cell4, ba_4.cell5, bb_4.cell0, bb_4.cell1, bb_4.cell2, bb_4.cell3, bb_4.cell4, bb_4.cell5⟩
      | fail)
    (first
      | (go_at_call 48; (with_reducible refine (padd_u _ _ p p' (p + p') _ rfl ha_4 hx_4 la lx).mono ?_); rintro e w5 ⟨u5, rfl, z1, b5⟩; have ha_5 := ha_4.below b5; have hc_5 := hc_4.below b5; have hx_5 := hx_4.below b5; have hy_5 := hy_4.below b5; have ba_5 := ba_4.below b5 ba_4.lt; have bb_5 := bb_4.below b5 bb_4.lt; have br_5 := br_4.below b5 br_4.lt; have F5 := below_then F4 (Nat.le_refl _) b5)
      | (go_at_call 48; (with_reducible refine (padd_u _ _ q q' (q + q') _ rfl hc_5 hy_5 lc ly).mono ?_); rintro e w6 ⟨u6, rfl, z2, b6⟩; have ha_6 := ha_5.below b6; have hc_6 := hc_5.below b6; have hx_6 := hx_5.below b6; have hy_6 := hy_5.below b6; have z1_6 := z1.below b6; have ba_6 := ba_5.below b6 ba_5.lt; have bb_6 := bb_5.below b6 bb_5.lt; have br_6 := br_5.below b6 br_5.lt; have F6 := below_then F5 (Nat.le_refl _) b6; have br_g0 := br_6.cell0; have br_h0 := br_6.frozen 0; have br_g1 := br_6.cell1; have br_h1 := br_6.frozen 1; have br_g2 := br_6.cell2; have br_h2 := br_6.frozen 2; have br_g3 := br_6.cell3; have br_h3 := br_6.frozen 3; have br_g4 := br_6.cell4; have br_h4 := br_6.frozen 4; have br_g5 := br_6.cell5; have br_h5 := br_6.frozen 5; have ba_p := ba_6.past6 (g' := w.heap.size + 2) (u0 := .bool u5.s) (u1 := .slice u5.A u5.n u5.c) (u2 := .slice u5.B u5.m u5.d) (u3 := .bool u6.s) (u4 := .slice u6.A u6.n u6.c) (u5 := .slice u6.B u6.m u6.d) (by omega); have bb_p := bb_6.past6 (g' := w.heap.size + 2) (u0 := .bool u5.s) (u1 := .slice u5.A u5.n u5.c) (u2 := .slice u5.B u5.m u5.d) (u3 := .bool u6.s) (u4 := .slice u6.A u6.n u6.c) (u5 := .slice u6.B u6.m u6.d) (by omega))
      | fail)
  go_wp2_with fail
  refine bodyPost_ret (v := .agg #[.bool u5.s, .slice u5.A u5.n u5.c, .slice u5.B u5.m u5.d, .bool u6.s, .slice u6.A u6.n u6.c, .slice u6.B u6.m u6.d]) (by simp [results, Try.results19, go_sem, (Sv.stor br_6 u5 u6).cell0, (Sv.stor br_6 u5 u6).cell1, (Sv.stor br_6 u5 u6).cell2, (Sv.stor br_6 u5 u6).cell3, (Sv.stor br_6 u5 u6).cell4, (Sv.stor br_6 u5 u6).cell5]) rfl (gv_end F6 (by omega) br_6 z1_6 z2)
theorem pjoin_iv (a c x y : Rv) (p q p' q' : Rat) (w : World) (ha : Iu w a p) (hc : Iu w c q) (hx : Iu w x p') (hy : Iu w y q') (la : Lu 4000 a) (lc : Lu 4000 c) (lx : Lu 4000 x) (ly : Lu 4000 y) : Calls Try.prog 35 #[.agg #[.bool a.s, .slice a.A a.n a.c, .slice a.B a.m a.d, .bool c.s, .slice c.A c.n c.c, .slice c.B c.m c.d], .agg #[.bool x.s, .slice x.A x.n x.c, .slice x.B x.m x.d, .bool y.s, .slice y.A y.n y.c, .slice y.B y.m y.d]] w (GV w (min p p') (max q q')) := by
  have ha_1 := ha.alloc (EV a c)
  have hc_1 := hc.alloc (EV a c)
  have hx_1 := hx.alloc (EV a c)
  have hy_1 := hy.alloc (EV a c)
  have ba_1 : Sv ((w).alloc (EV a c)) (w.heap.size) a c := by have h_ := Sv.new (w) a c; exact h_
  have F1 := (Below.refl w.heap.size w).alloc (Nat.le_refl _) (EV a c)
  have ha_2 := ha_1.alloc (EV x y)
  have hc_2 := hc_1.alloc (EV x y)
  have hx_2 := hx_1.alloc (EV x y)
  have hy_2 := hy_1.alloc (EV x y)
  have ba_2 := ba_1.alloc (EV x y)
  have bb_2 : Sv (((w).alloc (EV a c)).alloc (EV x y)) (w.heap.size + 1) x y := by have h_ := Sv.new ((w).alloc (EV a c)) x y; simp only [World.size_alloc] at h_; exact h_
  have F2 := F1.alloc F1.size (EV x y)
  have ha_3 := ha_2.alloc EV0
  have hc_3 := hc_2.alloc EV0
  have hx_3 := hx_2.alloc EV0
  have hy_3 := hy_2.alloc EV0
  have ba_3 := ba_2.alloc EV0
  have bb_3 := bb_2.alloc EV0
  have br_3 : Sv ((((w).alloc (EV a c)).alloc (EV x y)).alloc EV0) (w.heap.size + 2) Rv.zero Rv.zero := by have h_ := Sv.new (((w).alloc (EV a c)).alloc (EV x y)) Rv.zero Rv.zero; simp only [World.size_alloc] at h_; exact h_
  have F3 := F2.alloc F2.size EV0
  go_enter Try.func35, Try.ntmps35
  have ba_u3 := ba_3.cell0
  have ba_v3 := ba_3.cell1
  have ba_w3 := ba_3.cell2
  have ba_x3 := ba_3.cell3
  have ba_y3 := ba_3.cell4
  have ba_z3 := ba_3.cell5
  have bb_u3 := bb_3.cell0
  have bb_v3 := bb_3.cell1
  have bb_w3 := bb_3.cell2
  have bb_x3 := bb_3.cell3
  have bb_y3 := bb_3.cell4
  have bb_z3 := bb_3.cell5
  have br_u3 : ((((w).alloc (EV a c)).alloc (EV x y)).alloc EV0).cell? ⟨w.heap.size + 2, 0, none⟩ = some (.bool false) := br_3.cell0
  have br_v3 : ((((w).alloc (EV a c)).alloc (EV x y)).alloc EV0).cell? ⟨w.heap.size + 2, 1, none⟩ = some (.slice none 0 0) := br_3.cell1
  have br_w3 : ((((w).alloc (EV a c)).alloc (EV x y)).alloc EV0).cell? ⟨w.heap.size + 2, 2, none⟩ = some (.slice none 0 0) := br_3.cell2
  have br_x3 : ((((w).alloc (EV a c)).alloc (EV x y)).alloc EV0).cell? ⟨w.heap.size + 2, 3, none⟩ = some (.bool false) := br_3.cell3
  have br_y3 : ((((w).alloc (EV a c)).alloc (EV x y)).alloc EV0).cell? ⟨w.heap.size + 2, 4, none⟩ = some (.slice none 0 0) := br_3.cell4
  have br_z3 : ((((w).alloc (EV a c)).alloc (EV x y)).alloc EV0).cell? ⟨w.heap.size + 2, 5, none⟩ = some (.slice none 0 0) := br_3.cell5
  go_wp2_with fail
  have ha_4 := ha_3.drew
  have hc_4 := hc_3.drew
  have hx_4 := hx_3.drew
  have hy_4 := hy_3.drew
  have ba_4 := ba_3.drew
  have bb_4 := bb_3.drew
  have br_4 := br_3.drew
  have F4 := F3.drew
  go_region_held3 (fun w' => w'.cell? ⟨w.heap.size, 0, none⟩ = some (.bool a.s) ∧ w'.cell? ⟨w.heap.size, 1, none⟩ = some (.slice a.A a.n a.c) ∧ w'.cell? ⟨w.heap.size, 2, none⟩ = some (.slice a.B a.m a.d) ∧ w'.cell? ⟨w.heap.size, 3, none⟩ = some (.bool c.s) ∧ w'.cell? ⟨w.heap.size, 4, none⟩ = some (.slice c.A c.n c.c) ∧ w'.cell? ⟨w.heap.size, 5, none⟩ = some (.slice c.B c.m c.d) ∧ w'.cell? ⟨w.heap.size + 1, 0, none⟩ = some (.bool x.s) ∧ w'.cell? ⟨w.heap.size + 1, 1, none⟩ = some (.slice x.A x.n x.c) ∧ w'.cell? ⟨w.heap.size + 1, 2, none⟩ = some (.slice x.B x.m x.d) ∧ w'.cell? ⟨w.heap.size + 1, 3, none⟩ = some (.bool y.s) ∧ w'.cell? ⟨w.heap.size + 1, 4, none⟩ = some (.slice y.A y.n y.c) ∧ w'.cell? ⟨w.heap.size + 1, 5, none⟩ = some (.slice y.B y.m y.d))
    (first
      | with_reducible exact ⟨ba_p.cell0, ba_p.cell1, ba_p.cell2, ba_p.cell3, ba_p.cell4, ba_p.cell5, bb_p.cell0, bb_p.cell1, bb_p.cell2, bb_p.cell3, bb_p.cell4, bb_p.cell5⟩
      | with_reducible exact ⟨ba_6.cell0, ba_6.cell1, ba_6.cell2, ba_6.cell3, ba_6.cell4, ba_6.cell5, bb_6.cell0, bb_6.cell1, bb_6.cell2, bb_6.cell3, bb_6.cell4, bb_6.cell5⟩
      | with_reducible exact ⟨ba_5.cell0, ba_5.cell1, ba_5.cell2, ba_5.cell3, ba_5.cell4, ba_5.cell5, bb_5.cell0, bb_5.cell1, bb_5.cell2, bb_5.cell3, bb_5.cell4, bb_5.cell5⟩
      | with_reducible exact ⟨ba_4.cell0, ba_4.cell1, ba_4.cell2, ba_4.cell3, ba_4.cell4, ba_4.cell5, bb_4.cell0, bb_4.cell1, bb_4.cell2, bb_4.cell3, bb_4.cell4, bb_4.cell5⟩
      | fail)
    (first
      | (go_at_call 61; (with_reducible refine (pmin_u _ _ p p' (min p p') _ rfl ha_4 hx_4 la lx).mono ?_); rintro e w5 ⟨u5, rfl, z1, b5⟩; have ha_5 := ha_4.below b5; have hc_5 := hc_4.below b5; have hx_5 := hx_4.below b5; have hy_5 := hy_4.below b5; have ba_5 := ba_4.below b5 ba_4.lt; have bb_5 := bb_4.below b5 bb_4.lt; have br_5 := br_4.below b5 br_4.lt; have F5 := below_then F4 (Nat.le_refl _) b5)
      | (go_at_call 59; (with_reducible refine (pmax_u _ _ q q' (max q q') _ rfl hc_5 hy_5 lc ly).mono ?_); rintro e w6 ⟨u6, rfl, z2, b6⟩; have ha_6 := ha_5.below b6; have hc_6 := hc_5.below b6; have hx_6 := hx_5.below b6; have hy_6 := hy_5.below b6; have z1_6 := z1.below b6; have ba_6 := ba_5.below b6 ba_5.lt; have bb_6 := bb_5.below b6 bb_5.lt; have br_6 := br_5.below b6 br_5.lt; have F6 := below_then F5 (Nat.le_refl _) b6; have br_g0 := br_6.cell0; have br_h0 := br_6.frozen 0; have br_g1 := br_6.cell1; have br_h1 := br_6.frozen 1; have br_g2 := br_6.cell2; have br_h2 := br_6.frozen 2; have br_g3 := br_6.cell3; have br_h3 := br_6.frozen 3; have br_g4 := br_6.cell4; have br_h4 := br_6.frozen 4; have br_g5 := br_6.cell5; have br_h5 := br_6.frozen 5; have ba_p := ba_6.past6 (g' := w.heap.size + 2) (u0 := .bool u5.s) (u1 := .slice u5.A u5.n u5.c) (u2 := .slice u5.B u5.m u5.d) (u3 := .bool u6.s) (u4 := .slice u6.A u6.n u6.c) (u5 := .slice u6.B u6.m u6.d) (by omega); have bb_p := bb_6.past6 (g' := w.heap.size + 2) (u0 := .bool u5.s) (u1 := .slice u5.A u5.n u5.c) (u2 := .slice u5.B u5.m u5.d) (u3 := .bool u6.s) (u4 := .slice u6.A u6.n u6.c) (u5 := .slice u6.B u6.m u6.d) (by omega))
      | fail)
  go_wp2_with fail
  refine bodyPost_ret (v := .agg #[.bool u5.s, .slice u5.A u5.n u5.c, .slice u5.B u5.m u5.d, .bool u6.s, .slice u6.A u6.n u6.c, .slice u6.B u6.m u6.d]) (by simp [results, Try.results35, go_sem, (Sv.stor br_6 u5 u6).cell0, (Sv.stor br_6 u5 u6).cell1, (Sv.stor br_6 u5 u6).cell2, (Sv.stor br_6 u5 u6).cell3, (Sv.stor br_6 u5 u6).cell4, (Sv.stor br_6 u5 u6).cell5]) rfl (gv_end F6 (by omega) br_6 z1_6 z2)
theorem pneg_iv (a c : Rv) (p q : Rat) (w : World) (ha : Iu w a p) (hc : Iu w c q) (la : Lu 4000 a) (lc : Lu 4000 c) : Calls Try.prog 20 #[.agg #[.bool a.s, .slice a.A a.n a.c, .slice a.B a.m a.d, .bool c.s, .slice c.A c.n c.c, .slice c.B c.m c.d]] w (GV w (-q) (-p)) := by
  have ha_1 := ha.alloc (EV a c)
  have hc_1 := hc.alloc (EV a c)
  have ba_1 : Sv ((w).alloc (EV a c)) (w.heap.size) a c := by have h_ := Sv.new (w) a c; exact h_
  have F1 := (Below.refl w.heap.size w).alloc (Nat.le_refl _) (EV a c)
  have ha_2 := ha_1.alloc EV0
  have hc_2 := hc_1.alloc EV0
  have ba_2 := ba_1.alloc EV0
  have br_2 : Sv (((w).alloc (EV a c)).alloc EV0) (w.heap.size + 1) Rv.zero Rv.zero := by have h_ := Sv.new ((w).alloc (EV a c)) Rv.zero Rv.zero; simp only [World.size_alloc] at h_; exact h_
  have F2 := F1.alloc F1.size EV0
  go_enter Try.func20, Try.ntmps20
  have ba_u2 := ba_2.cell0
  have ba_v2 := ba_2.cell1
  have ba_w2 := ba_2.cell2
  have ba_x2 := ba_2.cell3
  have ba_y2 := ba_2.cell4
  have ba_z2 := ba_2.cell5
  have br_u2 : (((w).alloc (EV a c)).alloc EV0).cell? ⟨w.heap.size + 1, 0, none⟩ = some (.bool false) := br_2.cell0
  have br_v2 : (((w).alloc (EV a c)).alloc EV0).cell? ⟨w.heap.size + 1, 1, none⟩ = some (.slice none 0 0) := br_2.cell1
  have br_w2 : (((w).alloc (EV a c)).alloc EV0).cell? ⟨w.heap.size + 1, 2, none⟩ = some (.slice none 0 0) := br_2.cell2
  have br_x2 : (((w).alloc (EV a c)).alloc EV0).cell? ⟨w.heap.size + 1, 3, none⟩ = some (.bool false) := br_2.cell3
  have br_y2 : (((w).alloc (EV a c)).alloc EV0).cell? ⟨w.heap.size + 1, 4, none⟩ = some (.slice none 0 0) := br_2.cell4
  have br_z2 : (((w).alloc (EV a c)).alloc EV0).cell? ⟨w.heap.size + 1, 5, none⟩ = some (.slice none 0 0) := br_2.cell5
  go_wp2_with fail
  have ha_3 := ha_2.drew
  have hc_3 := hc_2.drew
  have ba_3 := ba_2.drew
  have br_3 := br_2.drew
  have F3 := F2.drew
  go_region_held3 (fun w' => w'.cell? ⟨w.heap.size, 0, none⟩ = some (.bool a.s) ∧ w'.cell? ⟨w.heap.size, 1, none⟩ = some (.slice a.A a.n a.c) ∧ w'.cell? ⟨w.heap.size, 2, none⟩ = some (.slice a.B a.m a.d) ∧ w'.cell? ⟨w.heap.size, 3, none⟩ = some (.bool c.s) ∧ w'.cell? ⟨w.heap.size, 4, none⟩ = some (.slice c.A c.n c.c) ∧ w'.cell? ⟨w.heap.size, 5, none⟩ = some (.slice c.B c.m c.d))
    (first
      | with_reducible exact ⟨ba_p.cell0, ba_p.cell1, ba_p.cell2, ba_p.cell3, ba_p.cell4, ba_p.cell5⟩
      | with_reducible exact ⟨ba_5.cell0, ba_5.cell1, ba_5.cell2, ba_5.cell3, ba_5.cell4, ba_5.cell5⟩
      | with_reducible exact ⟨ba_4.cell0, ba_4.cell1, ba_4.cell2, ba_4.cell3, ba_4.cell4, ba_4.cell5⟩
      | with_reducible exact ⟨ba_3.cell0, ba_3.cell1, ba_3.cell2, ba_3.cell3, ba_3.cell4, ba_3.cell5⟩
      | fail)
    (first
      | (go_at_call 49; (with_reducible refine (pneg_u _ q (-q) _ rfl hc_3 lc).mono ?_); rintro e w4 ⟨u4, rfl, z1, b4⟩; have ha_4 := ha_3.below b4; have hc_4 := hc_3.below b4; have ba_4 := ba_3.below b4 ba_3.lt; have br_4 := br_3.below b4 br_3.lt; have F4 := below_then F3 (Nat.le_refl _) b4)
      | (go_at_call 49; (with_reducible refine (pneg_u _ p (-p) _ rfl ha_4 la).mono ?_); rintro e w5 ⟨u5, rfl, z2, b5⟩; have ha_5 := ha_4.below b5; have hc_5 := hc_4.below b5; have z1_5 := z1.below b5; have ba_5 := ba_4.below b5 ba_4.lt; have br_5 := br_4.below b5 br_4.lt; have F5 := below_then F4 (Nat.le_refl _) b5; have br_g0 := br_5.cell0; have br_h0 := br_5.frozen 0; have br_g1 := br_5.cell1; have br_h1 := br_5.frozen 1; have br_g2 := br_5.cell2; have br_h2 := br_5.frozen 2; have br_g3 := br_5.cell3; have br_h3 := br_5.frozen 3; have br_g4 := br_5.cell4; have br_h4 := br_5.frozen 4; have br_g5 := br_5.cell5; have br_h5 := br_5.frozen 5; have ba_p := ba_5.past6 (g' := w.heap.size + 1) (u0 := .bool u4.s) (u1 := .slice u4.A u4.n u4.c) (u2 := .slice u4.B u4.m u4.d) (u3 := .bool u5.s) (u4 := .slice u5.A u5.n u5.c) (u5 := .slice u5.B u5.m u5.d) (by omega))
      | fail)
  go_wp2_with fail
  refine bodyPost_ret (v := .agg #[.bool u4.s, .slice u4.A u4.n u4.c, .slice u4.B u4.m u4.d, .bool u5.s, .slice u5.A u5.n u5.c, .slice u5.B u5.m u5.d]) (by simp [results, Try.results20, go_sem, (Sv.stor br_5 u4 u5).cell0, (Sv.stor br_5 u4 u5).cell1, (Sv.stor br_5 u4 u5).cell2, (Sv.stor br_5 u4 u5).cell3, (Sv.stor br_5 u4 u5).cell4, (Sv.stor br_5 u4 u5).cell5]) rfl (gv_end F5 (by omega) br_5 z1_5 z2)
theorem prelu_iv (a c : Rv) (p q : Rat) (w : World) (ha : Iu w a p) (hc : Iu w c q) (la : Lu 4000 a) (lc : Lu 4000 c) : Calls Try.prog 30 #[.agg #[.bool a.s, .slice a.A a.n a.c, .slice a.B a.m a.d, .bool c.s, .slice c.A c.n c.c, .slice c.B c.m c.d]] w (GV w (max p 0) (max q 0)) := by
  have ha_1 := ha.alloc (EV a c)
  have hc_1 := hc.alloc (EV a c)
  have ba_1 : Sv ((w).alloc (EV a c)) (w.heap.size) a c := by have h_ := Sv.new (w) a c; exact h_
  have F1 := (Below.refl w.heap.size w).alloc (Nat.le_refl _) (EV a c)
  have ha_2 := ha_1.alloc EV0
  have hc_2 := hc_1.alloc EV0
  have ba_2 := ba_1.alloc EV0
  have br_2 : Sv (((w).alloc (EV a c)).alloc EV0) (w.heap.size + 1) Rv.zero Rv.zero := by have h_ := Sv.new ((w).alloc (EV a c)) Rv.zero Rv.zero; simp only [World.size_alloc] at h_; exact h_
  have F2 := F1.alloc F1.size EV0
  go_enter Try.func30, Try.ntmps30
  have ba_u2 := ba_2.cell0
  have ba_v2 := ba_2.cell1
  have ba_w2 := ba_2.cell2
  have ba_x2 := ba_2.cell3
  have ba_y2 := ba_2.cell4
  have ba_z2 := ba_2.cell5
  have br_u2 : (((w).alloc (EV a c)).alloc EV0).cell? ⟨w.heap.size + 1, 0, none⟩ = some (.bool false) := br_2.cell0
  have br_v2 : (((w).alloc (EV a c)).alloc EV0).cell? ⟨w.heap.size + 1, 1, none⟩ = some (.slice none 0 0) := br_2.cell1
  have br_w2 : (((w).alloc (EV a c)).alloc EV0).cell? ⟨w.heap.size + 1, 2, none⟩ = some (.slice none 0 0) := br_2.cell2
  have br_x2 : (((w).alloc (EV a c)).alloc EV0).cell? ⟨w.heap.size + 1, 3, none⟩ = some (.bool false) := br_2.cell3
  have br_y2 : (((w).alloc (EV a c)).alloc EV0).cell? ⟨w.heap.size + 1, 4, none⟩ = some (.slice none 0 0) := br_2.cell4
  have br_z2 : (((w).alloc (EV a c)).alloc EV0).cell? ⟨w.heap.size + 1, 5, none⟩ = some (.slice none 0 0) := br_2.cell5
  go_wp2_with fail
  have ha_3 := ha_2.drew
  have hc_3 := hc_2.drew
  have ba_3 := ba_2.drew
  have br_3 := br_2.drew
  have F3 := F2.drew
  go_region_held3 (fun w' => w'.cell? ⟨w.heap.size, 0, none⟩ = some (.bool a.s) ∧ w'.cell? ⟨w.heap.size, 1, none⟩ = some (.slice a.A a.n a.c) ∧ w'.cell? ⟨w.heap.size, 2, none⟩ = some (.slice a.B a.m a.d) ∧ w'.cell? ⟨w.heap.size, 3, none⟩ = some (.bool c.s) ∧ w'.cell? ⟨w.heap.size, 4, none⟩ = some (.slice c.A c.n c.c) ∧ w'.cell? ⟨w.heap.size, 5, none⟩ = some (.slice c.B c.m c.d))
    (first
      | with_reducible exact ⟨ba_p.cell0, ba_p.cell1, ba_p.cell2, ba_p.cell3, ba_p.cell4, ba_p.cell5⟩
      | with_reducible exact ⟨ba_5.cell0, ba_5.cell1, ba_5.cell2, ba_5.cell3, ba_5.cell4, ba_5.cell5⟩
      | with_reducible exact ⟨ba_4.cell0, ba_4.cell1, ba_4.cell2, ba_4.cell3, ba_4.cell4, ba_4.cell5⟩
      | with_reducible exact ⟨ba_3.cell0, ba_3.cell1, ba_3.cell2, ba_3.cell3, ba_3.cell4, ba_3.cell5⟩
      | fail)
    (first
      | (go_at_call 59; (with_reducible refine (pmax_u _ Rv.zero p 0 (max p 0) _ rfl ha_3 (cu_zero _).iu la (lu_zero _)).mono ?_); rintro e w4 ⟨u4, rfl, z1, b4⟩; have ha_4 := ha_3.below b4; have hc_4 := hc_3.below b4; have ba_4 := ba_3.below b4 ba_3.lt; have br_4 := br_3.below b4 br_3.lt; have F4 := below_then F3 (Nat.le_refl _) b4)
      | (go_at_call 59; (with_reducible refine (pmax_u _ Rv.zero q 0 (max q 0) _ rfl hc_4 (cu_zero _).iu lc (lu_zero _)).mono ?_); rintro e w5 ⟨u5, rfl, z2, b5⟩; have ha_5 := ha_4.below b5; have hc_5 := hc_4.below b5; have z1_5 := z1.below b5; have ba_5 := ba_4.below b5 ba_4.lt; have br_5 := br_4.below b5 br_4.lt; have F5 := below_then F4 (Nat.le_refl _) b5; have br_g0 := br_5.cell0; have br_h0 := br_5.frozen 0; have br_g1 := br_5.cell1; have br_h1 := br_5.frozen 1; have br_g2 := br_5.cell2; have br_h2 := br_5.frozen 2; have br_g3 := br_5.cell3; have br_h3 := br_5.frozen 3; have br_g4 := br_5.cell4; have br_h4 := br_5.frozen 4; have br_g5 := br_5.cell5; have br_h5 := br_5.frozen 5; have ba_p := ba_5.past6 (g' := w.heap.size + 1) (u0 := .bool u4.s) (u1 := .slice u4.A u4.n u4.c) (u2 := .slice u4.B u4.m u4.d) (u3 := .bool u5.s) (u4 := .slice u5.A u5.n u5.c) (u5 := .slice u5.B u5.m u5.d) (by omega))
      | fail)
  go_wp2_with fail
  refine bodyPost_ret (v := .agg #[.bool u4.s, .slice u4.A u4.n u4.c, .slice u4.B u4.m u4.d, .bool u5.s, .slice u5.A u5.n u5.c, .slice u5.B u5.m u5.d]) (by simp [results, Try.results30, go_sem, (Sv.stor br_5 u4 u5).cell0, (Sv.stor br_5 u4 u5).cell1, (Sv.stor br_5 u4 u5).cell2, (Sv.stor br_5 u4 u5).cell3, (Sv.stor br_5 u4 u5).cell4, (Sv.stor br_5 u4 u5).cell5]) rfl (gv_end F5 (by omega) br_5 z1_5 z2)
theorem pmake_iv (a c : Rv) (p q : Rat) (w : World) (ha : Iu w a p) (hc : Iu w c q) (la : Lu 4000 a) (lc : Lu 4000 c) (h : p ≤ q) : Calls Try.prog 11 #[.agg #[.bool a.s, .slice a.A a.n a.c, .slice a.B a.m a.d], .agg #[.bool c.s, .slice c.A c.n c.c, .slice c.B c.m c.d]] w (GVE w p q 0) := by
  obtain ⟨r, hr⟩ : ∃ r, sz (p - q).num = r := ⟨_, rfl⟩
  have e1 : decide (0 < r) = false := by rw [← hr, sz_gt]; simpa using h
  have HR := hide hr
  clear hr h
  have ha_1 := ha.alloc (EU a)
  have hc_1 := hc.alloc (EU a)
  have ba_1 : Su ((w).alloc (EU a)) (w.heap.size) a := by have h_ := Su.new (w) a; exact h_
  have F1 := (Below.refl w.heap.size w).alloc (Nat.le_refl _) (EU a)
  have ha_2 := ha_1.alloc (EU c)
  have hc_2 := hc_1.alloc (EU c)
  have ba_2 := ba_1.alloc (EU c)
  have bb_2 : Su (((w).alloc (EU a)).alloc (EU c)) (w.heap.size + 1) c := by have h_ := Su.new ((w).alloc (EU a)) c; simp only [World.size_alloc] at h_; exact h_
  have F2 := F1.alloc F1.size (EU c)
  have ha_3 := ha_2.alloc EV0
  have hc_3 := hc_2.alloc EV0
  have ba_3 := ba_2.alloc EV0
  have bb_3 := bb_2.alloc EV0
  have br_3 : Sv ((((w).alloc (EU a)).alloc (EU c)).alloc EV0) (w.heap.size + 2) Rv.zero Rv.zero := by have h_ := Sv.new (((w).alloc (EU a)).alloc (EU c)) Rv.zero Rv.zero; simp only [World.size_alloc] at h_; exact h_
  have F3 := F2.alloc F2.size EV0
  go_enter Try.func11, Try.ntmps11
  have ba_u3 := ba_3.cell0
  have ba_v3 := ba_3.cell1
  have ba_w3 := ba_3.cell2
  have bb_u3 := bb_3.cell0
  have bb_v3 := bb_3.cell1
  have bb_w3 := bb_3.cell2
  have br_u3 : ((((w).alloc (EU a)).alloc (EU c)).alloc EV0).cell? ⟨w.heap.size + 2, 0, none⟩ = some (.bool false) := br_3.cell0
  have br_v3 : ((((w).alloc (EU a)).alloc (EU c)).alloc EV0).cell? ⟨w.heap.size + 2, 1, none⟩ = some (.slice none 0 0) := br_3.cell1
  have br_w3 : ((((w).alloc (EU a)).alloc (EU c)).alloc EV0).cell? ⟨w.heap.size + 2, 2, none⟩ = some (.slice none 0 0) := br_3.cell2
  have br_x3 : ((((w).alloc (EU a)).alloc (EU c)).alloc EV0).cell? ⟨w.heap.size + 2, 3, none⟩ = some (.bool false) := br_3.cell3
  have br_y3 : ((((w).alloc (EU a)).alloc (EU c)).alloc EV0).cell? ⟨w.heap.size + 2, 4, none⟩ = some (.slice none 0 0) := br_3.cell4
  have br_z3 : ((((w).alloc (EU a)).alloc (EU c)).alloc EV0).cell? ⟨w.heap.size + 2, 5, none⟩ = some (.slice none 0 0) := br_3.cell5
  go_wp2_with fail
  refine (pcmp_u _ _ p q r _ HR.out ha_3 hc_3 la lc).mono ?_
  rintro e w4 ⟨rfl, b4⟩
  have ha_4 := ha_3.below b4
  have hc_4 := hc_3.below b4
  have ba_4 := ba_3.below b4 ba_3.lt
  have bb_4 := bb_3.below b4 bb_3.lt
  have br_4 := br_3.below b4 br_3.lt
  have F4 := below_then F3 (Nat.le_refl _) b4
  have ba_u4 := ba_4.cell0
  have ba_v4 := ba_4.cell1
  have ba_w4 := ba_4.cell2
  have bb_u4 := bb_4.cell0
  have bb_v4 := bb_4.cell1
  have bb_w4 := bb_4.cell2
  have br_u4 : (w4).cell? ⟨w.heap.size + 2, 0, none⟩ = some (.bool false) := br_4.cell0
  have br_v4 : (w4).cell? ⟨w.heap.size + 2, 1, none⟩ = some (.slice none 0 0) := br_4.cell1
  have br_w4 : (w4).cell? ⟨w.heap.size + 2, 2, none⟩ = some (.slice none 0 0) := br_4.cell2
  have br_x4 : (w4).cell? ⟨w.heap.size + 2, 3, none⟩ = some (.bool false) := br_4.cell3
  have br_y4 : (w4).cell? ⟨w.heap.size + 2, 4, none⟩ = some (.slice none 0 0) := br_4.cell4
  have br_z4 : (w4).cell? ⟨w.heap.size + 2, 5, none⟩ = some (.slice none 0 0) := br_4.cell5
  go_wp2_with fail
  have ha_5 := ha_4.drew
  have hc_5 := hc_4.drew
  have ba_5 := ba_4.drew
  have bb_5 := bb_4.drew
  have br_5 := br_4.drew
  have F5 := F4.drew
  go_region_held3 (fun w' => w'.cell? ⟨w.heap.size, 0, none⟩ = some (.bool a.s) ∧ w'.cell? ⟨w.heap.size, 1, none⟩ = some (.slice a.A a.n a.c) ∧ w'.cell? ⟨w.heap.size, 2, none⟩ = some (.slice a.B a.m a.d) ∧ w'.cell? ⟨w.heap.size + 1, 0, none⟩ = some (.bool c.s) ∧ w'.cell? ⟨w.heap.size + 1, 1, none⟩ = some (.slice c.A c.n c.c) ∧ w'.cell? ⟨w.heap.size + 1, 2, none⟩ = some (.slice c.B c.m c.d))
    (first
      | with_reducible exact ⟨ba_p.cell0, ba_p.cell1, ba_p.cell2, bb_p.cell0, bb_p.cell1, bb_p.cell2⟩
      | with_reducible exact ⟨ba_7.cell0, ba_7.cell1, ba_7.cell2, bb_7.cell0, bb_7.cell1, bb_7.cell2⟩
      | with_reducible exact ⟨ba_6.cell0, ba_6.cell1, ba_6.cell2, bb_6.cell0, bb_6.cell1, bb_6.cell2⟩
      | with_reducible exact ⟨ba_5.cell0, ba_5.cell1, ba_5.cell2, bb_5.cell0, bb_5.cell1, bb_5.cell2⟩
      | fail)
    (first
      | (go_at_call 43; (with_reducible refine (pcanon_u _ p _ ha_5 la).mono ?_); rintro e w6 ⟨u6, rfl, z1, b6⟩; have ha_6 := ha_5.below b6; have hc_6 := hc_5.below b6; have ba_6 := ba_5.below b6 ba_5.lt; have bb_6 := bb_5.below b6 bb_5.lt; have br_6 := br_5.below b6 br_5.lt; have F6 := below_then F5 (Nat.le_refl _) b6)
      | (go_at_call 43; (with_reducible refine (pcanon_u _ q _ hc_6 lc).mono ?_); rintro e w7 ⟨u7, rfl, z2, b7⟩; have ha_7 := ha_6.below b7; have hc_7 := hc_6.below b7; have z1_7 := z1.below b7; have ba_7 := ba_6.below b7 ba_6.lt; have bb_7 := bb_6.below b7 bb_6.lt; have br_7 := br_6.below b7 br_6.lt; have F7 := below_then F6 (Nat.le_refl _) b7; have br_g0 := br_7.cell0; have br_h0 := br_7.frozen 0; have br_g1 := br_7.cell1; have br_h1 := br_7.frozen 1; have br_g2 := br_7.cell2; have br_h2 := br_7.frozen 2; have br_g3 := br_7.cell3; have br_h3 := br_7.frozen 3; have br_g4 := br_7.cell4; have br_h4 := br_7.frozen 4; have br_g5 := br_7.cell5; have br_h5 := br_7.frozen 5; have ba_p := ba_7.past6 (g' := w.heap.size + 2) (u0 := .bool u6.s) (u1 := .slice u6.A u6.n u6.c) (u2 := .slice u6.B u6.m u6.d) (u3 := .bool u7.s) (u4 := .slice u7.A u7.n u7.c) (u5 := .slice u7.B u7.m u7.d) (by omega); have bb_p := bb_7.past6 (g' := w.heap.size + 2) (u0 := .bool u6.s) (u1 := .slice u6.A u6.n u6.c) (u2 := .slice u6.B u6.m u6.d) (u3 := .bool u7.s) (u4 := .slice u7.A u7.n u7.c) (u5 := .slice u7.B u7.m u7.d) (by omega))
      | fail)
  go_wp2_with fail
  refine bodyPost_ret (v := .tuple #[.agg #[.bool u6.s, .slice u6.A u6.n u6.c, .slice u6.B u6.m u6.d, .bool u7.s, .slice u7.A u7.n u7.c, .slice u7.B u7.m u7.d], .int .i64 0]) (by simp [results, Try.results11, go_sem, (Sv.stor br_7 u6 u7).cell0, (Sv.stor br_7 u6 u7).cell1, (Sv.stor br_7 u6 u7).cell2, (Sv.stor br_7 u6 u7).cell3, (Sv.stor br_7 u6 u7).cell4, (Sv.stor br_7 u6 u7).cell5]) rfl (gve_end 0 F7 (by omega) br_7 z1_7 z2)
theorem pmake_no (a c : Rv) (p q : Rat) (w : World) (ha : Iu w a p) (hc : Iu w c q) (la : Lu 4000 a) (lc : Lu 4000 c) (h : ¬ p ≤ q) : Calls Try.prog 11 #[.agg #[.bool a.s, .slice a.A a.n a.c, .slice a.B a.m a.d], .agg #[.bool c.s, .slice c.A c.n c.c, .slice c.B c.m c.d]] w (GVE w 0 0 2) := by
  obtain ⟨r, hr⟩ : ∃ r, sz (p - q).num = r := ⟨_, rfl⟩
  have e1 : decide (0 < r) = true := by rw [← hr, sz_gt]; simpa using h
  have HR := hide hr
  clear hr h
  have ha_1 := ha.alloc (EU a)
  have hc_1 := hc.alloc (EU a)
  have ba_1 : Su ((w).alloc (EU a)) (w.heap.size) a := by have h_ := Su.new (w) a; exact h_
  have F1 := (Below.refl w.heap.size w).alloc (Nat.le_refl _) (EU a)
  have ha_2 := ha_1.alloc (EU c)
  have hc_2 := hc_1.alloc (EU c)
  have ba_2 := ba_1.alloc (EU c)
  have bb_2 : Su (((w).alloc (EU a)).alloc (EU c)) (w.heap.size + 1) c := by have h_ := Su.new ((w).alloc (EU a)) c; simp only [World.size_alloc] at h_; exact h_
  have F2 := F1.alloc F1.size (EU c)
  have ha_3 := ha_2.alloc EV0
  have hc_3 := hc_2.alloc EV0
  have ba_3 := ba_2.alloc EV0
  have bb_3 := bb_2.alloc EV0
  have br_3 : Sv ((((w).alloc (EU a)).alloc (EU c)).alloc EV0) (w.heap.size + 2) Rv.zero Rv.zero := by have h_ := Sv.new (((w).alloc (EU a)).alloc (EU c)) Rv.zero Rv.zero; simp only [World.size_alloc] at h_; exact h_
  have F3 := F2.alloc F2.size EV0
  go_enter Try.func11, Try.ntmps11
  have ba_u3 := ba_3.cell0
  have ba_v3 := ba_3.cell1
  have ba_w3 := ba_3.cell2
  have bb_u3 := bb_3.cell0
  have bb_v3 := bb_3.cell1
  have bb_w3 := bb_3.cell2
  have br_u3 : ((((w).alloc (EU a)).alloc (EU c)).alloc EV0).cell? ⟨w.heap.size + 2, 0, none⟩ = some (.bool false) := br_3.cell0
  have br_v3 : ((((w).alloc (EU a)).alloc (EU c)).alloc EV0).cell? ⟨w.heap.size + 2, 1, none⟩ = some (.slice none 0 0) := br_3.cell1
  have br_w3 : ((((w).alloc (EU a)).alloc (EU c)).alloc EV0).cell? ⟨w.heap.size + 2, 2, none⟩ = some (.slice none 0 0) := br_3.cell2
  have br_x3 : ((((w).alloc (EU a)).alloc (EU c)).alloc EV0).cell? ⟨w.heap.size + 2, 3, none⟩ = some (.bool false) := br_3.cell3
  have br_y3 : ((((w).alloc (EU a)).alloc (EU c)).alloc EV0).cell? ⟨w.heap.size + 2, 4, none⟩ = some (.slice none 0 0) := br_3.cell4
  have br_z3 : ((((w).alloc (EU a)).alloc (EU c)).alloc EV0).cell? ⟨w.heap.size + 2, 5, none⟩ = some (.slice none 0 0) := br_3.cell5
  go_wp2_with fail
  refine (pcmp_u _ _ p q r _ HR.out ha_3 hc_3 la lc).mono ?_
  rintro e w4 ⟨rfl, b4⟩
  have ha_4 := ha_3.below b4
  have hc_4 := hc_3.below b4
  have ba_4 := ba_3.below b4 ba_3.lt
  have bb_4 := bb_3.below b4 bb_3.lt
  have br_4 := br_3.below b4 br_3.lt
  have F4 := below_then F3 (Nat.le_refl _) b4
  have ba_u4 := ba_4.cell0
  have ba_v4 := ba_4.cell1
  have ba_w4 := ba_4.cell2
  have bb_u4 := bb_4.cell0
  have bb_v4 := bb_4.cell1
  have bb_w4 := bb_4.cell2
  have br_u4 : (w4).cell? ⟨w.heap.size + 2, 0, none⟩ = some (.bool false) := br_4.cell0
  have br_v4 : (w4).cell? ⟨w.heap.size + 2, 1, none⟩ = some (.slice none 0 0) := br_4.cell1
  have br_w4 : (w4).cell? ⟨w.heap.size + 2, 2, none⟩ = some (.slice none 0 0) := br_4.cell2
  have br_x4 : (w4).cell? ⟨w.heap.size + 2, 3, none⟩ = some (.bool false) := br_4.cell3
  have br_y4 : (w4).cell? ⟨w.heap.size + 2, 4, none⟩ = some (.slice none 0 0) := br_4.cell4
  have br_z4 : (w4).cell? ⟨w.heap.size + 2, 5, none⟩ = some (.slice none 0 0) := br_4.cell5
  have br_f04 := br_4.frozen 0
  have br_f14 := br_4.frozen 1
  have br_f24 := br_4.frozen 2
  have br_f34 := br_4.frozen 3
  have br_f44 := br_4.frozen 4
  have br_f54 := br_4.frozen 5
  go_wp2_with fail
  refine bodyPost_ret (v := .tuple #[.agg #[.bool false, .slice none 0 0, .slice none 0 0, .bool false, .slice none 0 0, .slice none 0 0], .int .i64 2]) (by simp [results, Try.results11, go_sem, (Sv.stor br_4 Rv.zero Rv.zero).cell0, (Sv.stor br_4 Rv.zero Rv.zero).cell1, (Sv.stor br_4 Rv.zero Rv.zero).cell2, (Sv.stor br_4 Rv.zero Rv.zero).cell3, (Sv.stor br_4 Rv.zero Rv.zero).cell4, (Sv.stor br_4 Rv.zero Rv.zero).cell5]) rfl (gve_end 2 F4 (by omega) br_4 (cu_zero _) (cu_zero _))
end Go.Proofs.Ytnddhohjfjlaiaa
