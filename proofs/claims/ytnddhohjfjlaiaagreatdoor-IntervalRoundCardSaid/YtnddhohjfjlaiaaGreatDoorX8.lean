/-
  The program's interval: Meet.
-/
import Derived.Test.YtnddhohjfjlaiaaGreatDoorX5
import Derived.Test.YtnddhohjfjlaiaaGreatDoorVB
namespace Go.Proofs.YtnddhohjfjlaiaaGreatDoor
open Go.RowKit
set_option linter.unusedVariables false
set_option linter.unusedSimpArgs false

set_option maxHeartbeats 4000000 in
theorem pmeet_iv (a c x y : Rv) (p q p' q' : Rat) (w : World) (ha : Iu w a p) (hc : Iu w c q) (hx : Iu w x p') (hy : Iu w y q') (la : Lu 4000 a) (lc : Lu 4000 c) (lx : Lu 4000 x) (ly : Lu 4000 y) (sp : Qs 100 p) (sq : Qs 100 q) (sp' : Qs 100 p') (sq' : Qs 100 q') (hle : max p p' ≤ min q q') : Calls Tryz.prog 10 #[.agg #[.bool a.s, .slice a.A a.n a.c, .slice a.B a.m a.d, .bool c.s, .slice c.A c.n c.c, .slice c.B c.m c.d], .agg #[.bool x.s, .slice x.A x.n x.c, .slice x.B x.m x.d, .bool y.s, .slice y.A y.n y.c, .slice y.B y.m y.d]] w (GVE w (max p p') (min q q') 0) := by
  have t1 := qs_max sp sp'
  have t2 := qs_min sq sq'
  have k2 : 100 ≤ 4000 := by decide
  obtain ⟨r, hr⟩ : ∃ r, sz (max p p' - min q q').num = r := ⟨_, rfl⟩
  have e1 : decide (0 < r) = false := by rw [← hr, sz_gt]; simpa using hle
  have HR := hide hr
  clear hr hle
  have ha_1 := ha.alloc (EV a c)
  have hc_1 := hc.alloc (EV a c)
  have hx_1 := hx.alloc (EV a c)
  have hy_1 := hy.alloc (EV a c)
  have ba_1 : Sv ((w).alloc (EV a c)) (w.heap.size) a c := by have h_ := Sv.new (w) a c; exact h_
  have F1 := (Below.refl w.heap.size w).alloc (Nat.le_refl _) (EV a c)
  have ha_2 := ha_1.alloc (EV x y)
  have hc_2 := hc_1.alloc (EV x y)
  have hx_2 := hx_1.alloc (EV x y)
  have hy_2 := hy_1.alloc (EV x y)
  have ba_2 := ba_1.alloc (EV x y)
  have bb_2 : Sv (((w).alloc (EV a c)).alloc (EV x y)) (w.heap.size + 1) x y := by have h_ := Sv.new ((w).alloc (EV a c)) x y; simp only [World.size_alloc] at h_; exact h_
  have F2 := F1.alloc F1.size (EV x y)
  have ha_3 := ha_2.alloc EV0
  have hc_3 := hc_2.alloc EV0
  have hx_3 := hx_2.alloc EV0
  have hy_3 := hy_2.alloc EV0
  have ba_3 := ba_2.alloc EV0
  have bb_3 := bb_2.alloc EV0
  have br_3 : Sv ((((w).alloc (EV a c)).alloc (EV x y)).alloc EV0) (w.heap.size + 2) Rv.zero Rv.zero := by have h_ := Sv.new (((w).alloc (EV a c)).alloc (EV x y)) Rv.zero Rv.zero; simp only [World.size_alloc] at h_; exact h_
  have F3 := F2.alloc F2.size EV0
  go_enter Tryz.func10, Tryz.ntmps10
  have ba_u3 := ba_3.cell0
  have ba_v3 := ba_3.cell1
  have ba_w3 := ba_3.cell2
  have ba_x3 := ba_3.cell3
  have ba_y3 := ba_3.cell4
  have ba_z3 := ba_3.cell5
  have bb_u3 := bb_3.cell0
  have bb_v3 := bb_3.cell1
  have bb_w3 := bb_3.cell2
  have bb_x3 := bb_3.cell3
  have bb_y3 := bb_3.cell4
  have bb_z3 := bb_3.cell5
  have br_u3 : ((((w).alloc (EV a c)).alloc (EV x y)).alloc EV0).cell? ⟨w.heap.size + 2, 0, none⟩ = some (.bool false) := br_3.cell0
  have br_v3 : ((((w).alloc (EV a c)).alloc (EV x y)).alloc EV0).cell? ⟨w.heap.size + 2, 1, none⟩ = some (.slice none 0 0) := br_3.cell1
  have br_w3 : ((((w).alloc (EV a c)).alloc (EV x y)).alloc EV0).cell? ⟨w.heap.size + 2, 2, none⟩ = some (.slice none 0 0) := br_3.cell2
  have br_x3 : ((((w).alloc (EV a c)).alloc (EV x y)).alloc EV0).cell? ⟨w.heap.size + 2, 3, none⟩ = some (.bool false) := br_3.cell3
  have br_y3 : ((((w).alloc (EV a c)).alloc (EV x y)).alloc EV0).cell? ⟨w.heap.size + 2, 4, none⟩ = some (.slice none 0 0) := br_3.cell4
  have br_z3 : ((((w).alloc (EV a c)).alloc (EV x y)).alloc EV0).cell? ⟨w.heap.size + 2, 5, none⟩ = some (.slice none 0 0) := br_3.cell5
  go_upto_region 1 with fail
  go_cut [6] (fun sx3 wy => ∃ (wx3 : World) (g : Nat) (u5 : Rv) (u6 : Rv), wx3 = wy ∧ sx3 = .pointer (some ⟨g, 0, none⟩) ∧ S6 wx3 g (.bool u5.s) (.slice u5.A u5.n u5.c) (.slice u5.B u5.m u5.d) (.bool u6.s) (.slice u6.A u6.n u6.c) (.slice u6.B u6.m u6.d) ∧ w.heap.size ≤ g ∧ w.heap.size ≠ g ∧ w.heap.size + 1 ≠ g ∧ w.heap.size + 2 ≠ g ∧ Sv wx3 (w.heap.size) a c ∧ Sv wx3 (w.heap.size + 1) x y ∧ Sv wx3 (w.heap.size + 2) Rv.zero Rv.zero ∧ Iu wx3 a p ∧ Iu wx3 c q ∧ Iu wx3 x p' ∧ Iu wx3 y q' ∧ Cu wx3 u5 (max p p') ∧ Cu wx3 u6 (min q q') ∧ Below w.heap.size w wx3)
  case first =>
    have le1_ : w.heap.size ≠ w.heap.size + 1 := by omega
    have lf1_ := Ne.symm le1_
    have le2_ : w.heap.size ≠ w.heap.size + 1 + 1 := by omega
    have lf2_ := Ne.symm le2_
    have le3_ : w.heap.size ≠ w.heap.size + 1 + 1 + 1 := by omega
    have lf3_ := Ne.symm le3_
    have le4_ : w.heap.size ≠ w.heap.size + 1 + 1 + 1 + 1 := by omega
    have lf4_ := Ne.symm le4_
    have ha_4 := ha_3.drew
    have hc_4 := hc_3.drew
    have hx_4 := hx_3.drew
    have hy_4 := hy_3.drew
    have ba_4 := ba_3.drew
    have bb_4 := bb_3.drew
    have br_4 := br_3.drew
    have F4 := F3.drew
    have ha_z0 := (ha_3.alloc EV0).drew
    have hc_z0 := (hc_3.alloc EV0).drew
    have hx_z0 := (hx_3.alloc EV0).drew
    have hy_z0 := (hy_3.alloc EV0).drew
    have ba_z0 := (ba_3.alloc EV0).drew
    have bb_z0 := (bb_3.alloc EV0).drew
    have br_z0 := (br_3.alloc EV0).drew
    have lz_ba : w.heap.size ≠ w.heap.size + 3 := by omega
    have lz_bb : w.heap.size + 1 ≠ w.heap.size + 3 := by omega
    have lz_br : w.heap.size + 2 ≠ w.heap.size + 3 := by omega
    have gl : w.heap.size ≤ w.heap.size + 3 := by omega
    have F_z0 := (F3.alloc F3.size EV0).drew
    have zb_0 : S6 (((((w).alloc (EV a c)).alloc (EV x y)).alloc EV0).alloc EV0).drew (w.heap.size + 3) (.bool false) (.slice none 0 0) (.slice none 0 0) (.bool false) (.slice none 0 0) (.slice none 0 0) := by have h_ := S6.new ((((w).alloc (EV a c)).alloc (EV x y)).alloc EV0) (.bool false) (.slice none 0 0) (.slice none 0 0) (.bool false) (.slice none 0 0) (.slice none 0 0); simp only [World.size_alloc] at h_; exact h_.drew
    go_region_held3 (fun w' => w'.cell? ⟨w.heap.size, 0, none⟩ = some (.bool a.s) ∧ w'.cell? ⟨w.heap.size, 1, none⟩ = some (.slice a.A a.n a.c) ∧ w'.cell? ⟨w.heap.size, 2, none⟩ = some (.slice a.B a.m a.d) ∧ w'.cell? ⟨w.heap.size, 3, none⟩ = some (.bool c.s) ∧ w'.cell? ⟨w.heap.size, 4, none⟩ = some (.slice c.A c.n c.c) ∧ w'.cell? ⟨w.heap.size, 5, none⟩ = some (.slice c.B c.m c.d) ∧ w'.cell? ⟨w.heap.size + 1, 0, none⟩ = some (.bool x.s) ∧ w'.cell? ⟨w.heap.size + 1, 1, none⟩ = some (.slice x.A x.n x.c) ∧ w'.cell? ⟨w.heap.size + 1, 2, none⟩ = some (.slice x.B x.m x.d) ∧ w'.cell? ⟨w.heap.size + 1, 3, none⟩ = some (.bool y.s) ∧ w'.cell? ⟨w.heap.size + 1, 4, none⟩ = some (.slice y.A y.n y.c) ∧ w'.cell? ⟨w.heap.size + 1, 5, none⟩ = some (.slice y.B y.m y.d))
      (first
        | with_reducible exact ⟨(ba_6.alloc (EV u5 u6)).cell0, (ba_6.alloc (EV u5 u6)).cell1, (ba_6.alloc (EV u5 u6)).cell2, (ba_6.alloc (EV u5 u6)).cell3, (ba_6.alloc (EV u5 u6)).cell4, (ba_6.alloc (EV u5 u6)).cell5, (bb_6.alloc (EV u5 u6)).cell0, (bb_6.alloc (EV u5 u6)).cell1, (bb_6.alloc (EV u5 u6)).cell2, (bb_6.alloc (EV u5 u6)).cell3, (bb_6.alloc (EV u5 u6)).cell4, (bb_6.alloc (EV u5 u6)).cell5⟩
        | with_reducible exact ⟨(ba_6.past6 (u0 := .bool u5.s) (u1 := .slice u5.A u5.n u5.c) (u2 := .slice u5.B u5.m u5.d) (u3 := .bool u6.s) (u4 := .slice u6.A u6.n u6.c) (u5 := .slice u6.B u6.m u6.d) lz_ba).cell0, (ba_6.past6 (u0 := .bool u5.s) (u1 := .slice u5.A u5.n u5.c) (u2 := .slice u5.B u5.m u5.d) (u3 := .bool u6.s) (u4 := .slice u6.A u6.n u6.c) (u5 := .slice u6.B u6.m u6.d) lz_ba).cell1, (ba_6.past6 (u0 := .bool u5.s) (u1 := .slice u5.A u5.n u5.c) (u2 := .slice u5.B u5.m u5.d) (u3 := .bool u6.s) (u4 := .slice u6.A u6.n u6.c) (u5 := .slice u6.B u6.m u6.d) lz_ba).cell2, (ba_6.past6 (u0 := .bool u5.s) (u1 := .slice u5.A u5.n u5.c) (u2 := .slice u5.B u5.m u5.d) (u3 := .bool u6.s) (u4 := .slice u6.A u6.n u6.c) (u5 := .slice u6.B u6.m u6.d) lz_ba).cell3, (ba_6.past6 (u0 := .bool u5.s) (u1 := .slice u5.A u5.n u5.c) (u2 := .slice u5.B u5.m u5.d) (u3 := .bool u6.s) (u4 := .slice u6.A u6.n u6.c) (u5 := .slice u6.B u6.m u6.d) lz_ba).cell4, (ba_6.past6 (u0 := .bool u5.s) (u1 := .slice u5.A u5.n u5.c) (u2 := .slice u5.B u5.m u5.d) (u3 := .bool u6.s) (u4 := .slice u6.A u6.n u6.c) (u5 := .slice u6.B u6.m u6.d) lz_ba).cell5, (bb_6.past6 (u0 := .bool u5.s) (u1 := .slice u5.A u5.n u5.c) (u2 := .slice u5.B u5.m u5.d) (u3 := .bool u6.s) (u4 := .slice u6.A u6.n u6.c) (u5 := .slice u6.B u6.m u6.d) lz_bb).cell0, (bb_6.past6 (u0 := .bool u5.s) (u1 := .slice u5.A u5.n u5.c) (u2 := .slice u5.B u5.m u5.d) (u3 := .bool u6.s) (u4 := .slice u6.A u6.n u6.c) (u5 := .slice u6.B u6.m u6.d) lz_bb).cell1, (bb_6.past6 (u0 := .bool u5.s) (u1 := .slice u5.A u5.n u5.c) (u2 := .slice u5.B u5.m u5.d) (u3 := .bool u6.s) (u4 := .slice u6.A u6.n u6.c) (u5 := .slice u6.B u6.m u6.d) lz_bb).cell2, (bb_6.past6 (u0 := .bool u5.s) (u1 := .slice u5.A u5.n u5.c) (u2 := .slice u5.B u5.m u5.d) (u3 := .bool u6.s) (u4 := .slice u6.A u6.n u6.c) (u5 := .slice u6.B u6.m u6.d) lz_bb).cell3, (bb_6.past6 (u0 := .bool u5.s) (u1 := .slice u5.A u5.n u5.c) (u2 := .slice u5.B u5.m u5.d) (u3 := .bool u6.s) (u4 := .slice u6.A u6.n u6.c) (u5 := .slice u6.B u6.m u6.d) lz_bb).cell4, (bb_6.past6 (u0 := .bool u5.s) (u1 := .slice u5.A u5.n u5.c) (u2 := .slice u5.B u5.m u5.d) (u3 := .bool u6.s) (u4 := .slice u6.A u6.n u6.c) (u5 := .slice u6.B u6.m u6.d) lz_bb).cell5⟩
        | with_reducible exact ⟨(ba_6.alloc EV0).cell0, (ba_6.alloc EV0).cell1, (ba_6.alloc EV0).cell2, (ba_6.alloc EV0).cell3, (ba_6.alloc EV0).cell4, (ba_6.alloc EV0).cell5, (bb_6.alloc EV0).cell0, (bb_6.alloc EV0).cell1, (bb_6.alloc EV0).cell2, (bb_6.alloc EV0).cell3, (bb_6.alloc EV0).cell4, (bb_6.alloc EV0).cell5⟩
        | with_reducible exact ⟨ba_6.cell0, ba_6.cell1, ba_6.cell2, ba_6.cell3, ba_6.cell4, ba_6.cell5, bb_6.cell0, bb_6.cell1, bb_6.cell2, bb_6.cell3, bb_6.cell4, bb_6.cell5⟩
        | with_reducible exact ⟨(ba_5.alloc EV0).cell0, (ba_5.alloc EV0).cell1, (ba_5.alloc EV0).cell2, (ba_5.alloc EV0).cell3, (ba_5.alloc EV0).cell4, (ba_5.alloc EV0).cell5, (bb_5.alloc EV0).cell0, (bb_5.alloc EV0).cell1, (bb_5.alloc EV0).cell2, (bb_5.alloc EV0).cell3, (bb_5.alloc EV0).cell4, (bb_5.alloc EV0).cell5⟩
        | with_reducible exact ⟨ba_5.cell0, ba_5.cell1, ba_5.cell2, ba_5.cell3, ba_5.cell4, ba_5.cell5, bb_5.cell0, bb_5.cell1, bb_5.cell2, bb_5.cell3, bb_5.cell4, bb_5.cell5⟩
        | with_reducible exact ⟨ba_z0.cell0, ba_z0.cell1, ba_z0.cell2, ba_z0.cell3, ba_z0.cell4, ba_z0.cell5, bb_z0.cell0, bb_z0.cell1, bb_z0.cell2, bb_z0.cell3, bb_z0.cell4, bb_z0.cell5⟩
        | with_reducible exact ⟨ba_4.cell0, ba_4.cell1, ba_4.cell2, ba_4.cell3, ba_4.cell4, ba_4.cell5, bb_4.cell0, bb_4.cell1, bb_4.cell2, bb_4.cell3, bb_4.cell4, bb_4.cell5⟩
        | fail)
      (first
        | (go_at_call 24; (with_reducible refine (pmax_u _ _ p p' (max p p') _ rfl ha_4 hx_4 la lx).mono ?_); rintro e w5 ⟨u5, rfl, rx, b5⟩; have ha_5 := ha_4.below b5; have hc_5 := hc_4.below b5; have hx_5 := hx_4.below b5; have hy_5 := hy_4.below b5; have ba_5 := ba_4.below b5 ba_4.lt; have bb_5 := bb_4.below b5 bb_4.lt; have br_5 := br_4.below b5 br_4.lt; have F5 := below_then F4 (Nat.le_refl _) b5)
        | (go_at_call 24; (with_reducible refine (pmax_u _ _ p p' (max p p') _ rfl ha_z0 hx_z0 la lx).mono ?_); rintro e w5 ⟨u5, rfl, rx, b5⟩; have ha_5 := ha_z0.below b5; have hc_5 := hc_z0.below b5; have hx_5 := hx_z0.below b5; have hy_5 := hy_z0.below b5; have ba_5 := ba_z0.below b5 ba_z0.lt; have bb_5 := bb_z0.below b5 bb_z0.lt; have br_5 := br_z0.below b5 br_z0.lt; have F5 := below_then F_z0 (Nat.le_refl _) b5; have zb_5 := zb_0.below b5 zb_0.lt)
        | (go_at_call 25; (with_reducible refine (pmin_u _ _ q q' (min q q') _ rfl hc_5 hy_5 lc ly).mono ?_); rintro e w6 ⟨u6, rfl, ry, b6⟩; have ha_6 := ha_5.below b6; have hc_6 := hc_5.below b6; have hx_6 := hx_5.below b6; have hy_6 := hy_5.below b6; have rx_6 := rx.below b6; have ba_6 := ba_5.below b6 ba_5.lt; have bb_6 := bb_5.below b6 bb_5.lt; have br_6 := br_5.below b6 br_5.lt; have F6 := below_then F5 (Nat.le_refl _) b6; have zb_6 := zb_5.below b6 zb_5.lt; have zk6_0 := zb_6.cell0; have zk6_1 := zb_6.cell1; have zk6_2 := zb_6.cell2; have zk6_3 := zb_6.cell3; have zk6_4 := zb_6.cell4; have zk6_5 := zb_6.cell5; have zf6_0 := zb_6.frozen 0; have zf6_1 := zb_6.frozen 1; have zf6_2 := zb_6.frozen 2; have zf6_3 := zb_6.frozen 3; have zf6_4 := zb_6.frozen 4; have zf6_5 := zb_6.frozen 5)
        | (go_at_call 25; (with_reducible refine (pmin_u _ _ q q' (min q q') _ rfl hc_5 hy_5 lc ly).mono ?_); rintro e w6 ⟨u6, rfl, ry, b6⟩; have ha_6 := ha_5.below b6; have hc_6 := hc_5.below b6; have hx_6 := hx_5.below b6; have hy_6 := hy_5.below b6; have rx_6 := rx.below b6; have ba_6 := ba_5.below b6 ba_5.lt; have bb_6 := bb_5.below b6 bb_5.lt; have br_6 := br_5.below b6 br_5.lt; have F6 := below_then F5 (Nat.le_refl _) b6)
        | (have ha_z6 := ha_5.alloc EV0; have hc_z6 := hc_5.alloc EV0; have hx_z6 := hx_5.alloc EV0; have hy_z6 := hy_5.alloc EV0; have rx_z6 := rx.alloc EV0; have ba_z6 := ba_5.alloc EV0; have bb_z6 := bb_5.alloc EV0; have br_z6 := br_5.alloc EV0; have lz_ba := Nat.ne_of_lt ba_5.lt; have lz_bb := Nat.ne_of_lt bb_5.lt; have lz_br := Nat.ne_of_lt br_5.lt; have gl := F5.size; have F_z6 := F5.alloc F5.size EV0; have zb_5 := S6.new (w5) (.bool false) (.slice none 0 0) (.slice none 0 0) (.bool false) (.slice none 0 0) (.slice none 0 0); go_at_call 25; (with_reducible refine (pmin_u _ _ q q' (min q q') _ rfl hc_z6 hy_z6 lc ly).mono ?_); rintro e w6 ⟨u6, rfl, ry, b6⟩; have ha_6 := ha_z6.below b6; have hc_6 := hc_z6.below b6; have hx_6 := hx_z6.below b6; have hy_6 := hy_z6.below b6; have rx_6 := rx_z6.below b6; have ba_6 := ba_z6.below b6 ba_z6.lt; have bb_6 := bb_z6.below b6 bb_z6.lt; have br_6 := br_z6.below b6 br_z6.lt; have F6 := below_then F_z6 (Nat.le_refl _) b6; have zb_6 := zb_5.below b6 zb_5.lt; have zk6_0 := zb_6.cell0; have zk6_1 := zb_6.cell1; have zk6_2 := zb_6.cell2; have zk6_3 := zb_6.cell3; have zk6_4 := zb_6.cell4; have zk6_5 := zb_6.cell5; have zf6_0 := zb_6.frozen 0; have zf6_1 := zb_6.frozen 1; have zf6_2 := zb_6.frozen 2; have zf6_3 := zb_6.frozen 3; have zf6_4 := zb_6.frozen 4; have zf6_5 := zb_6.frozen 5)
        | fail)
    all_goals (go_wp2_with fail; go_meet; first | exact ⟨_, _, u5, u6, rfl, rfl, zb_6.stor, gl, lz_ba, lz_bb, lz_br, ba_6.past6 lz_ba, bb_6.past6 lz_bb, br_6.past6 lz_br, ha_6.stor6 zb_6 (.bool u5.s) (.slice u5.A u5.n u5.c) (.slice u5.B u5.m u5.d) (.bool u6.s) (.slice u6.A u6.n u6.c) (.slice u6.B u6.m u6.d), hc_6.stor6 zb_6 (.bool u5.s) (.slice u5.A u5.n u5.c) (.slice u5.B u5.m u5.d) (.bool u6.s) (.slice u6.A u6.n u6.c) (.slice u6.B u6.m u6.d), hx_6.stor6 zb_6 (.bool u5.s) (.slice u5.A u5.n u5.c) (.slice u5.B u5.m u5.d) (.bool u6.s) (.slice u6.A u6.n u6.c) (.slice u6.B u6.m u6.d), hy_6.stor6 zb_6 (.bool u5.s) (.slice u5.A u5.n u5.c) (.slice u5.B u5.m u5.d) (.bool u6.s) (.slice u6.A u6.n u6.c) (.slice u6.B u6.m u6.d), rx_6.stor6 zb_6 (.bool u5.s) (.slice u5.A u5.n u5.c) (.slice u5.B u5.m u5.d) (.bool u6.s) (.slice u6.A u6.n u6.c) (.slice u6.B u6.m u6.d), ry.stor6 zb_6 (.bool u5.s) (.slice u5.A u5.n u5.c) (.slice u5.B u5.m u5.d) (.bool u6.s) (.slice u6.A u6.n u6.c) (.slice u6.B u6.m u6.d), below_six F6 gl⟩ | exact ⟨_, _, u5, u6, rfl, rfl, S6.new w6 (.bool u5.s) (.slice u5.A u5.n u5.c) (.slice u5.B u5.m u5.d) (.bool u6.s) (.slice u6.A u6.n u6.c) (.slice u6.B u6.m u6.d), F6.size, Nat.ne_of_lt ba_6.lt, Nat.ne_of_lt bb_6.lt, Nat.ne_of_lt br_6.lt, ba_6.alloc (EV u5 u6), bb_6.alloc (EV u5 u6), br_6.alloc (EV u5 u6), ha_6.alloc (EV u5 u6), hc_6.alloc (EV u5 u6), hx_6.alloc (EV u5 u6), hy_6.alloc (EV u5 u6), rx_6.alloc (EV u5 u6), ry.alloc (EV u5 u6), F6.alloc F6.size _⟩ | fail)
  case rest =>
    obtain ⟨wx3, g7, u5, u6, rfl, rfl, bm_07, gl_7, ne_bm_ba, ne_bm_bb, ne_bm_br, ba_7, bb_7, br_7, ha_7, hc_7, hx_7, hy_7, rx_7, ry_7, F7⟩ := hcut
    have bm_7 : Sv wx3 g7 u5 u6 := bm_07
    clear bm_07
    have ba_u7 := ba_7.cell0
    have ba_v7 := ba_7.cell1
    have ba_w7 := ba_7.cell2
    have ba_x7 := ba_7.cell3
    have ba_y7 := ba_7.cell4
    have ba_z7 := ba_7.cell5
    have bb_u7 := bb_7.cell0
    have bb_v7 := bb_7.cell1
    have bb_w7 := bb_7.cell2
    have bb_x7 := bb_7.cell3
    have bb_y7 := bb_7.cell4
    have bb_z7 := bb_7.cell5
    have br_u7 : (wx3).cell? ⟨w.heap.size + 2, 0, none⟩ = some (.bool false) := br_7.cell0
    have br_v7 : (wx3).cell? ⟨w.heap.size + 2, 1, none⟩ = some (.slice none 0 0) := br_7.cell1
    have br_w7 : (wx3).cell? ⟨w.heap.size + 2, 2, none⟩ = some (.slice none 0 0) := br_7.cell2
    have br_x7 : (wx3).cell? ⟨w.heap.size + 2, 3, none⟩ = some (.bool false) := br_7.cell3
    have br_y7 : (wx3).cell? ⟨w.heap.size + 2, 4, none⟩ = some (.slice none 0 0) := br_7.cell4
    have br_z7 : (wx3).cell? ⟨w.heap.size + 2, 5, none⟩ = some (.slice none 0 0) := br_7.cell5
    have bm_u7 := bm_7.cell0
    have bm_v7 := bm_7.cell1
    have bm_w7 := bm_7.cell2
    have bm_x7 := bm_7.cell3
    have bm_y7 := bm_7.cell4
    have bm_z7 := bm_7.cell5
    have lux := (rx_7.len t1).mono k2
    have luy := (ry_7.len t2).mono k2
    go_wp2_with fail
    refine (pcmp_u _ _ (max p p') (min q q') r _ HR.out rx_7.iu ry_7.iu lux luy).mono ?_
    rintro e w8 ⟨rfl, b8⟩
    have rx_8 := rx_7.below b8
    have ry_8 := ry_7.below b8
    have br_8 := br_7.below b8 br_7.lt
    have bm_8 := bm_7.below b8 bm_7.lt
    have F8 := below_then F7 (Nat.le_refl _) b8
    have br_u8 : (w8).cell? ⟨w.heap.size + 2, 0, none⟩ = some (.bool false) := br_8.cell0
    have br_v8 : (w8).cell? ⟨w.heap.size + 2, 1, none⟩ = some (.slice none 0 0) := br_8.cell1
    have br_w8 : (w8).cell? ⟨w.heap.size + 2, 2, none⟩ = some (.slice none 0 0) := br_8.cell2
    have br_x8 : (w8).cell? ⟨w.heap.size + 2, 3, none⟩ = some (.bool false) := br_8.cell3
    have br_y8 : (w8).cell? ⟨w.heap.size + 2, 4, none⟩ = some (.slice none 0 0) := br_8.cell4
    have br_z8 : (w8).cell? ⟨w.heap.size + 2, 5, none⟩ = some (.slice none 0 0) := br_8.cell5
    have bm_u8 := bm_8.cell0
    have bm_v8 := bm_8.cell1
    have bm_w8 := bm_8.cell2
    have bm_x8 := bm_8.cell3
    have bm_y8 := bm_8.cell4
    have bm_z8 := bm_8.cell5
    have br_f08 := br_8.frozen 0
    have br_f18 := br_8.frozen 1
    have br_f28 := br_8.frozen 2
    have br_f38 := br_8.frozen 3
    have br_f48 := br_8.frozen 4
    have br_f58 := br_8.frozen 5
    go_wp2_with fail
    refine bodyPost_ret (v := .tuple #[.agg #[.bool u5.s, .slice u5.A u5.n u5.c, .slice u5.B u5.m u5.d, .bool u6.s, .slice u6.A u6.n u6.c, .slice u6.B u6.m u6.d], .int .i64 0]) (by simp [results, Tryz.results10, go_sem, (Sv.stor br_8 u5 u6).cell0, (Sv.stor br_8 u5 u6).cell1, (Sv.stor br_8 u5 u6).cell2, (Sv.stor br_8 u5 u6).cell3, (Sv.stor br_8 u5 u6).cell4, (Sv.stor br_8 u5 u6).cell5]) rfl (gve_end 0 F8 (by omega) br_8 rx_8 ry_8)
set_option maxHeartbeats 4000000 in
theorem pmeet_no (a c x y : Rv) (p q p' q' : Rat) (w : World) (ha : Iu w a p) (hc : Iu w c q) (hx : Iu w x p') (hy : Iu w y q') (la : Lu 4000 a) (lc : Lu 4000 c) (lx : Lu 4000 x) (ly : Lu 4000 y) (sp : Qs 100 p) (sq : Qs 100 q) (sp' : Qs 100 p') (sq' : Qs 100 q') (hle : ¬ max p p' ≤ min q q') : Calls Tryz.prog 10 #[.agg #[.bool a.s, .slice a.A a.n a.c, .slice a.B a.m a.d, .bool c.s, .slice c.A c.n c.c, .slice c.B c.m c.d], .agg #[.bool x.s, .slice x.A x.n x.c, .slice x.B x.m x.d, .bool y.s, .slice y.A y.n y.c, .slice y.B y.m y.d]] w (GVE w 0 0 10) := by
  have t1 := qs_max sp sp'
  have t2 := qs_min sq sq'
  have k2 : 100 ≤ 4000 := by decide
  obtain ⟨r, hr⟩ : ∃ r, sz (max p p' - min q q').num = r := ⟨_, rfl⟩
  have e1 : decide (0 < r) = true := by rw [← hr, sz_gt]; simpa using hle
  have HR := hide hr
  clear hr hle
  have ha_1 := ha.alloc (EV a c)
  have hc_1 := hc.alloc (EV a c)
  have hx_1 := hx.alloc (EV a c)
  have hy_1 := hy.alloc (EV a c)
  have ba_1 : Sv ((w).alloc (EV a c)) (w.heap.size) a c := by have h_ := Sv.new (w) a c; exact h_
  have F1 := (Below.refl w.heap.size w).alloc (Nat.le_refl _) (EV a c)
  have ha_2 := ha_1.alloc (EV x y)
  have hc_2 := hc_1.alloc (EV x y)
  have hx_2 := hx_1.alloc (EV x y)
  have hy_2 := hy_1.alloc (EV x y)
  have ba_2 := ba_1.alloc (EV x y)
  have bb_2 : Sv (((w).alloc (EV a c)).alloc (EV x y)) (w.heap.size + 1) x y := by have h_ := Sv.new ((w).alloc (EV a c)) x y; simp only [World.size_alloc] at h_; exact h_
  have F2 := F1.alloc F1.size (EV x y)
  have ha_3 := ha_2.alloc EV0
  have hc_3 := hc_2.alloc EV0
  have hx_3 := hx_2.alloc EV0
  have hy_3 := hy_2.alloc EV0
  have ba_3 := ba_2.alloc EV0
  have bb_3 := bb_2.alloc EV0
  have br_3 : Sv ((((w).alloc (EV a c)).alloc (EV x y)).alloc EV0) (w.heap.size + 2) Rv.zero Rv.zero := by have h_ := Sv.new (((w).alloc (EV a c)).alloc (EV x y)) Rv.zero Rv.zero; simp only [World.size_alloc] at h_; exact h_
  have F3 := F2.alloc F2.size EV0
  go_enter Tryz.func10, Tryz.ntmps10
  have ba_u3 := ba_3.cell0
  have ba_v3 := ba_3.cell1
  have ba_w3 := ba_3.cell2
  have ba_x3 := ba_3.cell3
  have ba_y3 := ba_3.cell4
  have ba_z3 := ba_3.cell5
  have bb_u3 := bb_3.cell0
  have bb_v3 := bb_3.cell1
  have bb_w3 := bb_3.cell2
  have bb_x3 := bb_3.cell3
  have bb_y3 := bb_3.cell4
  have bb_z3 := bb_3.cell5
  have br_u3 : ((((w).alloc (EV a c)).alloc (EV x y)).alloc EV0).cell? ⟨w.heap.size + 2, 0, none⟩ = some (.bool false) := br_3.cell0
  have br_v3 : ((((w).alloc (EV a c)).alloc (EV x y)).alloc EV0).cell? ⟨w.heap.size + 2, 1, none⟩ = some (.slice none 0 0) := br_3.cell1
  have br_w3 : ((((w).alloc (EV a c)).alloc (EV x y)).alloc EV0).cell? ⟨w.heap.size + 2, 2, none⟩ = some (.slice none 0 0) := br_3.cell2
  have br_x3 : ((((w).alloc (EV a c)).alloc (EV x y)).alloc EV0).cell? ⟨w.heap.size + 2, 3, none⟩ = some (.bool false) := br_3.cell3
  have br_y3 : ((((w).alloc (EV a c)).alloc (EV x y)).alloc EV0).cell? ⟨w.heap.size + 2, 4, none⟩ = some (.slice none 0 0) := br_3.cell4
  have br_z3 : ((((w).alloc (EV a c)).alloc (EV x y)).alloc EV0).cell? ⟨w.heap.size + 2, 5, none⟩ = some (.slice none 0 0) := br_3.cell5
  go_upto_region 1 with fail
  go_cut [6] (fun sx3 wy => ∃ (wx3 : World) (g : Nat) (u5 : Rv) (u6 : Rv), wx3 = wy ∧ sx3 = .pointer (some ⟨g, 0, none⟩) ∧ S6 wx3 g (.bool u5.s) (.slice u5.A u5.n u5.c) (.slice u5.B u5.m u5.d) (.bool u6.s) (.slice u6.A u6.n u6.c) (.slice u6.B u6.m u6.d) ∧ w.heap.size ≤ g ∧ w.heap.size ≠ g ∧ w.heap.size + 1 ≠ g ∧ w.heap.size + 2 ≠ g ∧ Sv wx3 (w.heap.size) a c ∧ Sv wx3 (w.heap.size + 1) x y ∧ Sv wx3 (w.heap.size + 2) Rv.zero Rv.zero ∧ Iu wx3 a p ∧ Iu wx3 c q ∧ Iu wx3 x p' ∧ Iu wx3 y q' ∧ Cu wx3 u5 (max p p') ∧ Cu wx3 u6 (min q q') ∧ Below w.heap.size w wx3)
  case first =>
    have le1_ : w.heap.size ≠ w.heap.size + 1 := by omega
    have lf1_ := Ne.symm le1_
    have le2_ : w.heap.size ≠ w.heap.size + 1 + 1 := by omega
    have lf2_ := Ne.symm le2_
    have le3_ : w.heap.size ≠ w.heap.size + 1 + 1 + 1 := by omega
    have lf3_ := Ne.symm le3_
    have le4_ : w.heap.size ≠ w.heap.size + 1 + 1 + 1 + 1 := by omega
    have lf4_ := Ne.symm le4_
    have ha_4 := ha_3.drew
    have hc_4 := hc_3.drew
    have hx_4 := hx_3.drew
    have hy_4 := hy_3.drew
    have ba_4 := ba_3.drew
    have bb_4 := bb_3.drew
    have br_4 := br_3.drew
    have F4 := F3.drew
    have ha_z0 := (ha_3.alloc EV0).drew
    have hc_z0 := (hc_3.alloc EV0).drew
    have hx_z0 := (hx_3.alloc EV0).drew
    have hy_z0 := (hy_3.alloc EV0).drew
    have ba_z0 := (ba_3.alloc EV0).drew
    have bb_z0 := (bb_3.alloc EV0).drew
    have br_z0 := (br_3.alloc EV0).drew
    have lz_ba : w.heap.size ≠ w.heap.size + 3 := by omega
    have lz_bb : w.heap.size + 1 ≠ w.heap.size + 3 := by omega
    have lz_br : w.heap.size + 2 ≠ w.heap.size + 3 := by omega
    have gl : w.heap.size ≤ w.heap.size + 3 := by omega
    have F_z0 := (F3.alloc F3.size EV0).drew
    have zb_0 : S6 (((((w).alloc (EV a c)).alloc (EV x y)).alloc EV0).alloc EV0).drew (w.heap.size + 3) (.bool false) (.slice none 0 0) (.slice none 0 0) (.bool false) (.slice none 0 0) (.slice none 0 0) := by have h_ := S6.new ((((w).alloc (EV a c)).alloc (EV x y)).alloc EV0) (.bool false) (.slice none 0 0) (.slice none 0 0) (.bool false) (.slice none 0 0) (.slice none 0 0); simp only [World.size_alloc] at h_; exact h_.drew
    go_region_held3 (fun w' => w'.cell? ⟨w.heap.size, 0, none⟩ = some (.bool a.s) ∧ w'.cell? ⟨w.heap.size, 1, none⟩ = some (.slice a.A a.n a.c) ∧ w'.cell? ⟨w.heap.size, 2, none⟩ = some (.slice a.B a.m a.d) ∧ w'.cell? ⟨w.heap.size, 3, none⟩ = some (.bool c.s) ∧ w'.cell? ⟨w.heap.size, 4, none⟩ = some (.slice c.A c.n c.c) ∧ w'.cell? ⟨w.heap.size, 5, none⟩ = some (.slice c.B c.m c.d) ∧ w'.cell? ⟨w.heap.size + 1, 0, none⟩ = some (.bool x.s) ∧ w'.cell? ⟨w.heap.size + 1, 1, none⟩ = some (.slice x.A x.n x.c) ∧ w'.cell? ⟨w.heap.size + 1, 2, none⟩ = some (.slice x.B x.m x.d) ∧ w'.cell? ⟨w.heap.size + 1, 3, none⟩ = some (.bool y.s) ∧ w'.cell? ⟨w.heap.size + 1, 4, none⟩ = some (.slice y.A y.n y.c) ∧ w'.cell? ⟨w.heap.size + 1, 5, none⟩ = some (.slice y.B y.m y.d))
      (first
        | with_reducible exact ⟨(ba_6.alloc (EV u5 u6)).cell0, (ba_6.alloc (EV u5 u6)).cell1, (ba_6.alloc (EV u5 u6)).cell2, (ba_6.alloc (EV u5 u6)).cell3, (ba_6.alloc (EV u5 u6)).cell4, (ba_6.alloc (EV u5 u6)).cell5, (bb_6.alloc (EV u5 u6)).cell0, (bb_6.alloc (EV u5 u6)).cell1, (bb_6.alloc (EV u5 u6)).cell2, (bb_6.alloc (EV u5 u6)).cell3, (bb_6.alloc (EV u5 u6)).cell4, (bb_6.alloc (EV u5 u6)).cell5⟩
        | with_reducible exact ⟨(ba_6.past6 (u0 := .bool u5.s) (u1 := .slice u5.A u5.n u5.c) (u2 := .slice u5.B u5.m u5.d) (u3 := .bool u6.s) (u4 := .slice u6.A u6.n u6.c) (u5 := .slice u6.B u6.m u6.d) lz_ba).cell0, (ba_6.past6 (u0 := .bool u5.s) (u1 := .slice u5.A u5.n u5.c) (u2 := .slice u5.B u5.m u5.d) (u3 := .bool u6.s) (u4 := .slice u6.A u6.n u6.c) (u5 := .slice u6.B u6.m u6.d) lz_ba).cell1, (ba_6.past6 (u0 := .bool u5.s) (u1 := .slice u5.A u5.n u5.c) (u2 := .slice u5.B u5.m u5.d) (u3 := .bool u6.s) (u4 := .slice u6.A u6.n u6.c) (u5 := .slice u6.B u6.m u6.d) lz_ba).cell2, (ba_6.past6 (u0 := .bool u5.s) (u1 := .slice u5.A u5.n u5.c) (u2 := .slice u5.B u5.m u5.d) (u3 := .bool u6.s) (u4 := .slice u6.A u6.n u6.c) (u5 := .slice u6.B u6.m u6.d) lz_ba).cell3, (ba_6.past6 (u0 := .bool u5.s) (u1 := .slice u5.A u5.n u5.c) (u2 := .slice u5.B u5.m u5.d) (u3 := .bool u6.s) (u4 := .slice u6.A u6.n u6.c) (u5 := .slice u6.B u6.m u6.d) lz_ba).cell4, (ba_6.past6 (u0 := .bool u5.s) (u1 := .slice u5.A u5.n u5.c) (u2 := .slice u5.B u5.m u5.d) (u3 := .bool u6.s) (u4 := .slice u6.A u6.n u6.c) (u5 := .slice u6.B u6.m u6.d) lz_ba).cell5, (bb_6.past6 (u0 := .bool u5.s) (u1 := .slice u5.A u5.n u5.c) (u2 := .slice u5.B u5.m u5.d) (u3 := .bool u6.s) (u4 := .slice u6.A u6.n u6.c) (u5 := .slice u6.B u6.m u6.d) lz_bb).cell0, (bb_6.past6 (u0 := .bool u5.s) (u1 := .slice u5.A u5.n u5.c) (u2 := .slice u5.B u5.m u5.d) (u3 := .bool u6.s) (u4 := .slice u6.A u6.n u6.c) (u5 := .slice u6.B u6.m u6.d) lz_bb).cell1, (bb_6.past6 (u0 := .bool u5.s) (u1 := .slice u5.A u5.n u5.c) (u2 := .slice u5.B u5.m u5.d) (u3 := .bool u6.s) (u4 := .slice u6.A u6.n u6.c) (u5 := .slice u6.B u6.m u6.d) lz_bb).cell2, (bb_6.past6 (u0 := .bool u5.s) (u1 := .slice u5.A u5.n u5.c) (u2 := .slice u5.B u5.m u5.d) (u3 := .bool u6.s) (u4 := .slice u6.A u6.n u6.c) (u5 := .slice u6.B u6.m u6.d) lz_bb).cell3, (bb_6.past6 (u0 := .bool u5.s) (u1 := .slice u5.A u5.n u5.c) (u2 := .slice u5.B u5.m u5.d) (u3 := .bool u6.s) (u4 := .slice u6.A u6.n u6.c) (u5 := .slice u6.B u6.m u6.d) lz_bb).cell4, (bb_6.past6 (u0 := .bool u5.s) (u1 := .slice u5.A u5.n u5.c) (u2 := .slice u5.B u5.m u5.d) (u3 := .bool u6.s) (u4 := .slice u6.A u6.n u6.c) (u5 := .slice u6.B u6.m u6.d) lz_bb).cell5⟩
        | with_reducible exact ⟨(ba_6.alloc EV0).cell0, (ba_6.alloc EV0).cell1, (ba_6.alloc EV0).cell2, (ba_6.alloc EV0).cell3, (ba_6.alloc EV0).cell4, (ba_6.alloc EV0).cell5, (bb_6.alloc EV0).cell0, (bb_6.alloc EV0).cell1, (bb_6.alloc EV0).cell2, (bb_6.alloc EV0).cell3, (bb_6.alloc EV0).cell4, (bb_6.alloc EV0).cell5⟩
        | with_reducible exact ⟨ba_6.cell0, ba_6.cell1, ba_6.cell2, ba_6.cell3, ba_6.cell4, ba_6.cell5, bb_6.cell0, bb_6.cell1, bb_6.cell2, bb_6.cell3, bb_6.cell4, bb_6.cell5⟩
        | with_reducible exact ⟨(ba_5.alloc EV0).cell0, (ba_5.alloc EV0).cell1, (ba_5.alloc EV0).cell2, (ba_5.alloc EV0).cell3, (ba_5.alloc EV0).cell4, (ba_5.alloc EV0).cell5, (bb_5.alloc EV0).cell0, (bb_5.alloc EV0).cell1, (bb_5.alloc EV0).cell2, (bb_5.alloc EV0).cell3, (bb_5.alloc EV0).cell4, (bb_5.alloc EV0).cell5⟩
        | with_reducible exact ⟨ba_5.cell0, ba_5.cell1, ba_5.cell2, ba_5.cell3, ba_5.cell4, ba_5.cell5, bb_5.cell0, bb_5.cell1, bb_5.cell2, bb_5.cell3, bb_5.cell4, bb_5.cell5⟩
        | with_reducible exact ⟨ba_z0.cell0, ba_z0.cell1, ba_z0.cell2, ba_z0.cell3, ba_z0.cell4, ba_z0.cell5, bb_z0.cell0, bb_z0.cell1, bb_z0.cell2, bb_z0.cell3, bb_z0.cell4, bb_z0.cell5⟩
        | with_reducible exact ⟨ba_4.cell0, ba_4.cell1, ba_4.cell2, ba_4.cell3, ba_4.cell4, ba_4.cell5, bb_4.cell0, bb_4.cell1, bb_4.cell2, bb_4.cell3, bb_4.cell4, bb_4.cell5⟩
        | fail)
      (first
        | (go_at_call 24; (with_reducible refine (pmax_u _ _ p p' (max p p') _ rfl ha_4 hx_4 la lx).mono ?_); rintro e w5 ⟨u5, rfl, rx, b5⟩; have ha_5 := ha_4.below b5; have hc_5 := hc_4.below b5; have hx_5 := hx_4.below b5; have hy_5 := hy_4.below b5; have ba_5 := ba_4.below b5 ba_4.lt; have bb_5 := bb_4.below b5 bb_4.lt; have br_5 := br_4.below b5 br_4.lt; have F5 := below_then F4 (Nat.le_refl _) b5)
        | (go_at_call 24; (with_reducible refine (pmax_u _ _ p p' (max p p') _ rfl ha_z0 hx_z0 la lx).mono ?_); rintro e w5 ⟨u5, rfl, rx, b5⟩; have ha_5 := ha_z0.below b5; have hc_5 := hc_z0.below b5; have hx_5 := hx_z0.below b5; have hy_5 := hy_z0.below b5; have ba_5 := ba_z0.below b5 ba_z0.lt; have bb_5 := bb_z0.below b5 bb_z0.lt; have br_5 := br_z0.below b5 br_z0.lt; have F5 := below_then F_z0 (Nat.le_refl _) b5; have zb_5 := zb_0.below b5 zb_0.lt)
        | (go_at_call 25; (with_reducible refine (pmin_u _ _ q q' (min q q') _ rfl hc_5 hy_5 lc ly).mono ?_); rintro e w6 ⟨u6, rfl, ry, b6⟩; have ha_6 := ha_5.below b6; have hc_6 := hc_5.below b6; have hx_6 := hx_5.below b6; have hy_6 := hy_5.below b6; have rx_6 := rx.below b6; have ba_6 := ba_5.below b6 ba_5.lt; have bb_6 := bb_5.below b6 bb_5.lt; have br_6 := br_5.below b6 br_5.lt; have F6 := below_then F5 (Nat.le_refl _) b6; have zb_6 := zb_5.below b6 zb_5.lt; have zk6_0 := zb_6.cell0; have zk6_1 := zb_6.cell1; have zk6_2 := zb_6.cell2; have zk6_3 := zb_6.cell3; have zk6_4 := zb_6.cell4; have zk6_5 := zb_6.cell5; have zf6_0 := zb_6.frozen 0; have zf6_1 := zb_6.frozen 1; have zf6_2 := zb_6.frozen 2; have zf6_3 := zb_6.frozen 3; have zf6_4 := zb_6.frozen 4; have zf6_5 := zb_6.frozen 5)
        | (go_at_call 25; (with_reducible refine (pmin_u _ _ q q' (min q q') _ rfl hc_5 hy_5 lc ly).mono ?_); rintro e w6 ⟨u6, rfl, ry, b6⟩; have ha_6 := ha_5.below b6; have hc_6 := hc_5.below b6; have hx_6 := hx_5.below b6; have hy_6 := hy_5.below b6; have rx_6 := rx.below b6; have ba_6 := ba_5.below b6 ba_5.lt; have bb_6 := bb_5.below b6 bb_5.lt; have br_6 := br_5.below b6 br_5.lt; have F6 := below_then F5 (Nat.le_refl _) b6)
        | (have ha_z6 := ha_5.alloc EV0; have hc_z6 := hc_5.alloc EV0; have hx_z6 := hx_5.alloc EV0; have hy_z6 := hy_5.alloc EV0; have rx_z6 := rx.alloc EV0; have ba_z6 := ba_5.alloc EV0; have bb_z6 := bb_5.alloc EV0; have br_z6 := br_5.alloc EV0; have lz_ba := Nat.ne_of_lt ba_5.lt; have lz_bb := Nat.ne_of_lt bb_5.lt; have lz_br := Nat.ne_of_lt br_5.lt; have gl := F5.size; have F_z6 := F5.alloc F5.size EV0; have zb_5 := S6.new (w5) (.bool false) (.slice none 0 0) (.slice none 0 0) (.bool false) (.slice none 0 0) (.slice none 0 0); go_at_call 25; (with_reducible refine (pmin_u _ _ q q' (min q q') _ rfl hc_z6 hy_z6 lc ly).mono ?_); rintro e w6 ⟨u6, rfl, ry, b6⟩; have ha_6 := ha_z6.below b6; have hc_6 := hc_z6.below b6; have hx_6 := hx_z6.below b6; have hy_6 := hy_z6.below b6; have rx_6 := rx_z6.below b6; have ba_6 := ba_z6.below b6 ba_z6.lt; have bb_6 := bb_z6.below b6 bb_z6.lt; have br_6 := br_z6.below b6 br_z6.lt; have F6 := below_then F_z6 (Nat.le_refl _) b6; have zb_6 := zb_5.below b6 zb_5.lt; have zk6_0 := zb_6.cell0; have zk6_1 := zb_6.cell1; have zk6_2 := zb_6.cell2; have zk6_3 := zb_6.cell3; have zk6_4 := zb_6.cell4; have zk6_5 := zb_6.cell5; have zf6_0 := zb_6.frozen 0; have zf6_1 := zb_6.frozen 1; have zf6_2 := zb_6.frozen 2; have zf6_3 := zb_6.frozen 3; have zf6_4 := zb_6.frozen 4; have zf6_5 := zb_6.frozen 5)
        | fail)
    all_goals (go_wp2_with fail; go_meet; first | exact ⟨_, _, u5, u6, rfl, rfl, zb_6.stor, gl, lz_ba, lz_bb, lz_br, ba_6.past6 lz_ba, bb_6.past6 lz_bb, br_6.past6 lz_br, ha_6.stor6 zb_6 (.bool u5.s) (.slice u5.A u5.n u5.c) (.slice u5.B u5.m u5.d) (.bool u6.s) (.slice u6.A u6.n u6.c) (.slice u6.B u6.m u6.d), hc_6.stor6 zb_6 (.bool u5.s) (.slice u5.A u5.n u5.c) (.slice u5.B u5.m u5.d) (.bool u6.s) (.slice u6.A u6.n u6.c) (.slice u6.B u6.m u6.d), hx_6.stor6 zb_6 (.bool u5.s) (.slice u5.A u5.n u5.c) (.slice u5.B u5.m u5.d) (.bool u6.s) (.slice u6.A u6.n u6.c) (.slice u6.B u6.m u6.d), hy_6.stor6 zb_6 (.bool u5.s) (.slice u5.A u5.n u5.c) (.slice u5.B u5.m u5.d) (.bool u6.s) (.slice u6.A u6.n u6.c) (.slice u6.B u6.m u6.d), rx_6.stor6 zb_6 (.bool u5.s) (.slice u5.A u5.n u5.c) (.slice u5.B u5.m u5.d) (.bool u6.s) (.slice u6.A u6.n u6.c) (.slice u6.B u6.m u6.d), ry.stor6 zb_6 (.bool u5.s) (.slice u5.A u5.n u5.c) (.slice u5.B u5.m u5.d) (.bool u6.s) (.slice u6.A u6.n u6.c) (.slice u6.B u6.m u6.d), below_six F6 gl⟩ | exact ⟨_, _, u5, u6, rfl, rfl, S6.new w6 (.bool u5.s) (.slice u5.A u5.n u5.c) (.slice u5.B u5.m u5.d) (.bool u6.s) (.slice u6.A u6.n u6.c) (.slice u6.B u6.m u6.d), F6.size, Nat.ne_of_lt ba_6.lt, Nat.ne_of_lt bb_6.lt, Nat.ne_of_lt br_6.lt, ba_6.alloc (EV u5 u6), bb_6.alloc (EV u5 u6), br_6.alloc (EV u5 u6), ha_6.alloc (EV u5 u6), hc_6.alloc (EV u5 u6), hx_6.alloc (EV u5 u6), hy_6.alloc (EV u5 u6), rx_6.alloc (EV u5 u6), ry.alloc (EV u5 u6), F6.alloc F6.size _⟩ | fail)
  case rest =>
    obtain ⟨wx3, g7, u5, u6, rfl, rfl, bm_07, gl_7, ne_bm_ba, ne_bm_bb, ne_bm_br, ba_7, bb_7, br_7, ha_7, hc_7, hx_7, hy_7, rx_7, ry_7, F7⟩ := hcut
    have bm_7 : Sv wx3 g7 u5 u6 := bm_07
    clear bm_07
    have ba_u7 := ba_7.cell0
    have ba_v7 := ba_7.cell1
    have ba_w7 := ba_7.cell2
    have ba_x7 := ba_7.cell3
    have ba_y7 := ba_7.cell4
    have ba_z7 := ba_7.cell5
    have bb_u7 := bb_7.cell0
    have bb_v7 := bb_7.cell1
    have bb_w7 := bb_7.cell2
    have bb_x7 := bb_7.cell3
    have bb_y7 := bb_7.cell4
    have bb_z7 := bb_7.cell5
    have br_u7 : (wx3).cell? ⟨w.heap.size + 2, 0, none⟩ = some (.bool false) := br_7.cell0
    have br_v7 : (wx3).cell? ⟨w.heap.size + 2, 1, none⟩ = some (.slice none 0 0) := br_7.cell1
    have br_w7 : (wx3).cell? ⟨w.heap.size + 2, 2, none⟩ = some (.slice none 0 0) := br_7.cell2
    have br_x7 : (wx3).cell? ⟨w.heap.size + 2, 3, none⟩ = some (.bool false) := br_7.cell3
    have br_y7 : (wx3).cell? ⟨w.heap.size + 2, 4, none⟩ = some (.slice none 0 0) := br_7.cell4
    have br_z7 : (wx3).cell? ⟨w.heap.size + 2, 5, none⟩ = some (.slice none 0 0) := br_7.cell5
    have bm_u7 := bm_7.cell0
    have bm_v7 := bm_7.cell1
    have bm_w7 := bm_7.cell2
    have bm_x7 := bm_7.cell3
    have bm_y7 := bm_7.cell4
    have bm_z7 := bm_7.cell5
    have lux := (rx_7.len t1).mono k2
    have luy := (ry_7.len t2).mono k2
    go_wp2_with fail
    refine (pcmp_u _ _ (max p p') (min q q') r _ HR.out rx_7.iu ry_7.iu lux luy).mono ?_
    rintro e w8 ⟨rfl, b8⟩
    have rx_8 := rx_7.below b8
    have ry_8 := ry_7.below b8
    have br_8 := br_7.below b8 br_7.lt
    have bm_8 := bm_7.below b8 bm_7.lt
    have F8 := below_then F7 (Nat.le_refl _) b8
    have br_u8 : (w8).cell? ⟨w.heap.size + 2, 0, none⟩ = some (.bool false) := br_8.cell0
    have br_v8 : (w8).cell? ⟨w.heap.size + 2, 1, none⟩ = some (.slice none 0 0) := br_8.cell1
    have br_w8 : (w8).cell? ⟨w.heap.size + 2, 2, none⟩ = some (.slice none 0 0) := br_8.cell2
    have br_x8 : (w8).cell? ⟨w.heap.size + 2, 3, none⟩ = some (.bool false) := br_8.cell3
    have br_y8 : (w8).cell? ⟨w.heap.size + 2, 4, none⟩ = some (.slice none 0 0) := br_8.cell4
    have br_z8 : (w8).cell? ⟨w.heap.size + 2, 5, none⟩ = some (.slice none 0 0) := br_8.cell5
    have bm_u8 := bm_8.cell0
    have bm_v8 := bm_8.cell1
    have bm_w8 := bm_8.cell2
    have bm_x8 := bm_8.cell3
    have bm_y8 := bm_8.cell4
    have bm_z8 := bm_8.cell5
    have br_f08 := br_8.frozen 0
    have br_f18 := br_8.frozen 1
    have br_f28 := br_8.frozen 2
    have br_f38 := br_8.frozen 3
    have br_f48 := br_8.frozen 4
    have br_f58 := br_8.frozen 5
    go_wp2_with fail
    refine bodyPost_ret (v := .tuple #[.agg #[.bool false, .slice none 0 0, .slice none 0 0, .bool false, .slice none 0 0, .slice none 0 0], .int .i64 10]) (by simp [results, Tryz.results10, go_sem, (Sv.stor br_8 Rv.zero Rv.zero).cell0, (Sv.stor br_8 Rv.zero Rv.zero).cell1, (Sv.stor br_8 Rv.zero Rv.zero).cell2, (Sv.stor br_8 Rv.zero Rv.zero).cell3, (Sv.stor br_8 Rv.zero Rv.zero).cell4, (Sv.stor br_8 Rv.zero Rv.zero).cell5]) rfl (gve_end 10 F8 (by omega) br_8 (cu_zero _) (cu_zero _))
end Go.Proofs.YtnddhohjfjlaiaaGreatDoor
