/-
  awake of the statements of interval.
-/
import Derived.Test.YtnddhohjfjlaiaaGreatDoorP6
namespace Go.Proofs.YtnddhohjfjlaiaaGreatDoor
open Go.RowKit
set_option linter.unusedVariables false
set_option linter.unusedSimpArgs false

theorem qs_lit6 {q : Rat} (h : decide (q.num.natAbs < 4294967296 ∧ q.den < 4294967296) = true) : Qs 100 q := by
  have := of_decide_eq_true h
  have h1 : pw 1 ≤ pw 100 := pw_mono (by decide)
  have h2 : pw 1 = 4294967296 := rfl
  exact ⟨by omega, by omega⟩
theorem of_lit (x y : Int) (p q : Rat) (w : World) (h : decide ((x : Rat) = p ∧ (y : Rat) = q ∧ -9223372036854775808 ≤ x ∧ x ≤ 9223372036854775807 ∧ -9223372036854775808 ≤ y ∧ y ≤ 9223372036854775807) = true) : Calls Tryz.prog 11 #[.int .i64 x, .int .i64 y] w (GV w p q) := by
  have h := of_decide_eq_true h
  exact of_iv x y p q w h.1 h.2.1 ⟨h.2.2.1, h.2.2.2.1⟩ ⟨h.2.2.2.2.1, h.2.2.2.2.2⟩
theorem Qs.m {j k : Nat} {q : Rat} (h : Qs j q) (hk : j ≤ k) : Qs k q := ⟨Nat.lt_of_lt_of_le h.1 (pw_mono hk), Nat.lt_of_lt_of_le h.2 (pw_mono hk)⟩
theorem gv_to {w w' : World} {p q p' q' : Rat} {e : Ending} (h : GV w p q e w') (hp : p = p') (hq : q = q') : GV w p' q' e w' := by subst hp hq; exact h
theorem gve_to {w w' : World} {p q p' q' : Rat} {r : Int} {e : Ending} (h : GVE w p q r e w') (hp : p = p') (hq : q = q') : GVE w p' q' r e w' := by subst hp hq; exact h
theorem imul_e (a c x y : Rv) (p q p' q' : Rat) (z1 z2 : Rat) (w : World) (h1 : min (min (p * p') (q * p')) (min (p * q') (q * q')) = z1) (h2 : max (max (p * p') (q * p')) (max (p * q') (q * q')) = z2) (ha : Cu w a p) (hc : Cu w c q) (hx : Cu w x p') (hy : Cu w y q') (hpq : p ≤ q) (hpq' : p' ≤ q') (sp : Qs 100 p) (sq : Qs 100 q) (sp' : Qs 100 p') (sq' : Qs 100 q') : Calls Tryz.prog 12 #[.agg #[.bool a.s, .slice a.A a.n a.c, .slice a.B a.m a.d, .bool c.s, .slice c.A c.n c.c, .slice c.B c.m c.d], .agg #[.bool x.s, .slice x.A x.n x.c, .slice x.B x.m x.d, .bool y.s, .slice y.A y.n y.c, .slice y.B y.m y.d]] w (GV w z1 z2) :=
  (imul_iv a c x y p q p' q' w ha hc hx hy hpq hpq' sp sq sp' sq').mono fun _ _ h => gv_to h h1 h2
theorem irelu_e (a c : Rv) (p q : Rat) (z1 z2 : Rat) (w : World) (h1 : max p 0 = z1) (h2 : max q 0 = z2) (ha : Cu w a p) (hc : Cu w c q) (hpq : p ≤ q) (sp : Qs 100 p) (sq : Qs 100 q) : Calls Tryz.prog 13 #[.agg #[.bool a.s, .slice a.A a.n a.c, .slice a.B a.m a.d, .bool c.s, .slice c.A c.n c.c, .slice c.B c.m c.d]] w (GV w z1 z2) :=
  (irelu_iv a c p q w ha hc hpq sp sq).mono fun _ _ h => gv_to h h1 h2
theorem imeet_e (a c x y : Rv) (p q p' q' : Rat) (z1 z2 : Rat) (w : World) (h1 : max p p' = z1) (h2 : min q q' = z2) (ha : Cu w a p) (hc : Cu w c q) (hx : Cu w x p') (hy : Cu w y q') (hpq : p ≤ q) (hpq' : p' ≤ q') (sp : Qs 100 p) (sq : Qs 100 q) (sp' : Qs 100 p') (sq' : Qs 100 q') (hle : z1 ≤ z2) : Calls Tryz.prog 10 #[.agg #[.bool a.s, .slice a.A a.n a.c, .slice a.B a.m a.d, .bool c.s, .slice c.A c.n c.c, .slice c.B c.m c.d], .agg #[.bool x.s, .slice x.A x.n x.c, .slice x.B x.m x.d, .bool y.s, .slice y.A y.n y.c, .slice y.B y.m y.d]] w (GVE w z1 z2 0) :=
  (imeet_iv a c x y p q p' q' w ha hc hx hy hpq hpq' sp sq sp' sq' (by rw [h1, h2]; exact hle)).mono fun _ _ h => gve_to h h1 h2
set_option maxHeartbeats 4000000 in
theorem awake6 (w : World) : Calls Tryz.prog 4 #[] w (Asks w (.bool true)) := by
  have q0 : Qs 100 (0 : Rat) := qs_lit6 (by decide +kernel)
  have q1 : Qs 100 (1 : Rat) := qs_lit6 (by decide +kernel)
  have q2 : Qs 100 (2 : Rat) := qs_lit6 (by decide +kernel)
  have q3 : Qs 100 (3 : Rat) := qs_lit6 (by decide +kernel)
  have qm3 : Qs 100 (-3 : Rat) := qs_lit6 (by decide +kernel)
  have qm1 : Qs 100 (-1 : Rat) := qs_lit6 (by decide +kernel)
  have qm6 : Qs 100 (-6 : Rat) := qs_lit6 (by decide +kernel)
  have O0_1 := hide (fun W => of_lit (0) (1) (0) (1) W (by decide +kernel))
  have O1_2 := hide (fun W => of_lit (1) (2) (1) (2) W (by decide +kernel))
  have O2_3 := hide (fun W => of_lit (2) (3) (2) (3) W (by decide +kernel))
  have O1_1 := hide (fun W => of_lit (1) (1) (1) (1) W (by decide +kernel))
  have Om3_1 := hide (fun W => of_lit (-3) (1) (-3) (1) W (by decide +kernel))
  have Om6_2 := hide (fun W => of_lit (-6) (2) (-6) (2) W (by decide +kernel))
  have Om1_2 := hide (fun W => of_lit (-1) (2) (-1) (2) W (by decide +kernel))
  have O0_2 := hide (fun W => of_lit (0) (2) (0) (2) W (by decide +kernel))
  have l0_1 : ((0 : Rat)) ≤ (1) := by decide +kernel
  have l1_2 : ((1 : Rat)) ≤ (2) := by decide +kernel
  have l2_3 : ((2 : Rat)) ≤ (3) := by decide +kernel
  have l1_1 : ((1 : Rat)) ≤ (1) := by decide +kernel
  have lm3_1 : ((-3 : Rat)) ≤ (1) := by decide +kernel
  have lm6_2 : ((-6 : Rat)) ≤ (2) := by decide +kernel
  have lm1_2 : ((-1 : Rat)) ≤ (2) := by decide +kernel
  have l0_2 : ((0 : Rat)) ≤ (2) := by decide +kernel
  have HM1 := hide (show max (0 : Rat) 1 = 1 ∧ min (1 : Rat) 2 = 1 by decide +kernel)
  have HM2 := hide (show ¬ max (0 : Rat) 2 ≤ min (1 : Rat) 3 by decide +kernel)
  have HM4 := hide (show max (0 : Rat) 1 ≤ min (1 : Rat) 2 by decide +kernel)
  have HM5 := hide (show min (min ((1 : Rat) * (-3)) (2 * (-3))) (min (1 * 1) (2 * 1)) = -6 ∧ max (max ((1 : Rat) * (-3)) (2 * (-3))) (max (1 * 1) (2 * 1)) = 2 by decide +kernel)
  have HM6 := hide (show max (-1 : Rat) 0 = 0 ∧ max (2 : Rat) 0 = 2 by decide +kernel)
  have HC1 := hide (show (decide ((0 : Rat) ≤ 0) && decide ((0 : Rat) ≤ 1)) = true by decide +kernel)
  have HC2 := hide (show (decide ((1 : Rat) ≤ 0) && decide ((0 : Rat) ≤ 2)) = false by decide +kernel)
  have k4 : 100 ≤ 4000 := by decide
  go_enter Tryz.func4, Tryz.ntmps4
  go_wp2_with fail
  refine (O0_1.out _).mono ?_
  rintro e w1 ⟨u1, v1, rfl, a1, c1, b1⟩
  have F1 := b1
  go_wp2_with fail
  refine (O1_2.out _).mono ?_
  rintro e w2 ⟨u2, v2, rfl, a2, c2, b2⟩
  have a1_2 := a1.below b2
  have c1_2 := c1.below b2
  have F2 := below_then F1 (Nat.le_refl _) b2
  go_wp2_with fail
  refine (imeet_e _ _ _ _ 0 1 1 2 1 1 _ HM1.out.1 HM1.out.2 a1_2 c1_2 a2 c2 l0_1 l1_2 q0 q1 q1 q2 l1_1).mono ?_
  rintro e w3 ⟨u3, v3, rfl, am, cm, b3⟩
  have a1_3 := a1_2.below b3
  have c1_3 := c1_2.below b3
  have a2_3 := a2.below b3
  have c2_3 := c2.below b3
  have F3 := below_then F2 (Nat.le_refl _) b3
  have a1_4 := a1_3.alloc (EV u3 v3)
  have c1_4 := c1_3.alloc (EV u3 v3)
  have a2_4 := a2_3.alloc (EV u3 v3)
  have c2_4 := c2_3.alloc (EV u3 v3)
  have am_4 := am.alloc (EV u3 v3)
  have cm_4 := cm.alloc (EV u3 v3)
  have bm_4 : Sv ((w3).alloc (EV u3 v3)) (w3.heap.size) u3 v3 := by have h_ := Sv.new (w3) u3 v3; exact h_
  have F4 := F3.alloc F3.size (EV u3 v3)
  have bm_u4 := bm_4.cell0
  have bm_v4 := bm_4.cell1
  have bm_w4 := bm_4.cell2
  have bm_x4 := bm_4.cell3
  have bm_y4 := bm_4.cell4
  have bm_z4 := bm_4.cell5
  go_wp2_with fail
  refine (O0_1.out _).mono ?_
  rintro e w5 ⟨u5, v5, rfl, a1, c1, b5⟩
  have am_5 := am_4.below b5
  have cm_5 := cm_4.below b5
  have bm_5 := bm_4.below b5 bm_4.lt
  have F5 := below_then F4 (Nat.le_refl _) b5
  have bm_u5 := bm_5.cell0
  have bm_v5 := bm_5.cell1
  have bm_w5 := bm_5.cell2
  have bm_x5 := bm_5.cell3
  have bm_y5 := bm_5.cell4
  have bm_z5 := bm_5.cell5
  go_wp2_with fail
  refine (O2_3.out _).mono ?_
  rintro e w6 ⟨u6, v6, rfl, a2, c2, b6⟩
  have am_6 := am_5.below b6
  have cm_6 := cm_5.below b6
  have a1_6 := a1.below b6
  have c1_6 := c1.below b6
  have bm_6 := bm_5.below b6 bm_5.lt
  have F6 := below_then F5 (Nat.le_refl _) b6
  have bm_u6 := bm_6.cell0
  have bm_v6 := bm_6.cell1
  have bm_w6 := bm_6.cell2
  have bm_x6 := bm_6.cell3
  have bm_y6 := bm_6.cell4
  have bm_z6 := bm_6.cell5
  go_wp2_with fail
  refine (imeet_no _ _ _ _ 0 1 2 3 _ a1_6 c1_6 a2 c2 l0_1 l2_3 q0 q1 q2 q3 HM2.out).mono ?_
  rintro e w7 ⟨u7, v7, rfl, an, cn, b7⟩
  have am_7 := am_6.below b7
  have cm_7 := cm_6.below b7
  have a1_7 := a1_6.below b7
  have c1_7 := c1_6.below b7
  have a2_7 := a2.below b7
  have c2_7 := c2.below b7
  have bm_7 := bm_6.below b7 bm_6.lt
  have F7 := below_then F6 (Nat.le_refl _) b7
  have bm_u7 := bm_7.cell0
  have bm_v7 := bm_7.cell1
  have bm_w7 := bm_7.cell2
  have bm_x7 := bm_7.cell3
  have bm_y7 := bm_7.cell4
  have bm_z7 := bm_7.cell5
  have lt_bn_bm := bm_7.lt
  have am_8 := am_7.alloc (EV u7 v7)
  have cm_8 := cm_7.alloc (EV u7 v7)
  have a1_8 := a1_7.alloc (EV u7 v7)
  have c1_8 := c1_7.alloc (EV u7 v7)
  have a2_8 := a2_7.alloc (EV u7 v7)
  have c2_8 := c2_7.alloc (EV u7 v7)
  have an_8 := an.alloc (EV u7 v7)
  have cn_8 := cn.alloc (EV u7 v7)
  have bm_8 := bm_7.alloc (EV u7 v7)
  have bn_8 : Sv ((w7).alloc (EV u7 v7)) (w7.heap.size) u7 v7 := by have h_ := Sv.new (w7) u7 v7; exact h_
  have F8 := F7.alloc F7.size (EV u7 v7)
  have bm_u8 := bm_8.cell0
  have bm_v8 := bm_8.cell1
  have bm_w8 := bm_8.cell2
  have bm_x8 := bm_8.cell3
  have bm_y8 := bm_8.cell4
  have bm_z8 := bm_8.cell5
  have bn_u8 := bn_8.cell0
  have bn_v8 := bn_8.cell1
  have bn_w8 := bn_8.cell2
  have bn_x8 := bn_8.cell3
  have bn_y8 := bn_8.cell4
  have bn_z8 := bn_8.cell5
  go_wp2_with fail
  have am_9 := am_8.drew
  have cm_9 := cm_8.drew
  have bm_9 := bm_8.drew
  have F9 := F8.drew
  go_region_held3 (fun w' => w'.cell? ⟨w3.heap.size, 0, none⟩ = some (.bool u3.s) ∧ w'.cell? ⟨w3.heap.size, 1, none⟩ = some (.slice u3.A u3.n u3.c) ∧ w'.cell? ⟨w3.heap.size, 2, none⟩ = some (.slice u3.B u3.m u3.d) ∧ w'.cell? ⟨w3.heap.size, 3, none⟩ = some (.bool v3.s) ∧ w'.cell? ⟨w3.heap.size, 4, none⟩ = some (.slice v3.A v3.n v3.c) ∧ w'.cell? ⟨w3.heap.size, 5, none⟩ = some (.slice v3.B v3.m v3.d))
    (first
      | with_reducible exact ⟨bm_24.cell0, bm_24.cell1, bm_24.cell2, bm_24.cell3, bm_24.cell4, bm_24.cell5⟩
      | with_reducible exact ⟨bm_23.cell0, bm_23.cell1, bm_23.cell2, bm_23.cell3, bm_23.cell4, bm_23.cell5⟩
      | with_reducible exact ⟨bm_22.cell0, bm_22.cell1, bm_22.cell2, bm_22.cell3, bm_22.cell4, bm_22.cell5⟩
      | with_reducible exact ⟨bm_21.cell0, bm_21.cell1, bm_21.cell2, bm_21.cell3, bm_21.cell4, bm_21.cell5⟩
      | with_reducible exact ⟨bm_20.cell0, bm_20.cell1, bm_20.cell2, bm_20.cell3, bm_20.cell4, bm_20.cell5⟩
      | with_reducible exact ⟨bm_19.cell0, bm_19.cell1, bm_19.cell2, bm_19.cell3, bm_19.cell4, bm_19.cell5⟩
      | with_reducible exact ⟨bm_18.cell0, bm_18.cell1, bm_18.cell2, bm_18.cell3, bm_18.cell4, bm_18.cell5⟩
      | with_reducible exact ⟨bm_17.cell0, bm_17.cell1, bm_17.cell2, bm_17.cell3, bm_17.cell4, bm_17.cell5⟩
      | with_reducible exact ⟨bm_16.cell0, bm_16.cell1, bm_16.cell2, bm_16.cell3, bm_16.cell4, bm_16.cell5⟩
      | with_reducible exact ⟨bm_15.cell0, bm_15.cell1, bm_15.cell2, bm_15.cell3, bm_15.cell4, bm_15.cell5⟩
      | with_reducible exact ⟨bm_14.cell0, bm_14.cell1, bm_14.cell2, bm_14.cell3, bm_14.cell4, bm_14.cell5⟩
      | with_reducible exact ⟨bm_13.cell0, bm_13.cell1, bm_13.cell2, bm_13.cell3, bm_13.cell4, bm_13.cell5⟩
      | with_reducible exact ⟨bm_12.cell0, bm_12.cell1, bm_12.cell2, bm_12.cell3, bm_12.cell4, bm_12.cell5⟩
      | with_reducible exact ⟨bm_11.cell0, bm_11.cell1, bm_11.cell2, bm_11.cell3, bm_11.cell4, bm_11.cell5⟩
      | with_reducible exact ⟨bm_10.cell0, bm_10.cell1, bm_10.cell2, bm_10.cell3, bm_10.cell4, bm_10.cell5⟩
      | with_reducible exact ⟨bm_9.cell0, bm_9.cell1, bm_9.cell2, bm_9.cell3, bm_9.cell4, bm_9.cell5⟩
      | fail)
    (first
      | (go_at_call 11; (with_reducible refine (O1_1.out _).mono ?_); rintro e w10 ⟨u10, v10, rfl, x1, y1, b10⟩; have am_10 := am_9.below b10; have cm_10 := cm_9.below b10; have bm_10 := bm_9.below b10 bm_9.lt; have F10 := below_then F9 (Nat.le_refl _) b10)
      | (go_at_call 8; (with_reducible refine (same_iv _ _ _ _ 1 1 _ am_10 cm_10 x1 y1 ((am_10.len q1).mono k4) ((cm_10.len q1).mono k4)).mono ?_); rintro e w11 ⟨rfl, b11⟩; have am_11 := am_10.below b11; have cm_11 := cm_10.below b11; have x1_11 := x1.below b11; have y1_11 := y1.below b11; have bm_11 := bm_10.below b11 bm_10.lt; have F11 := below_then F10 (Nat.le_refl _) b11)
      | (go_at_call 11; (with_reducible refine (O1_2.out _).mono ?_); rintro e w12 ⟨u12, v12, rfl, x2, y2, b12⟩; have am_12 := am_11.below b12; have cm_12 := cm_11.below b12; have x1_12 := x1_11.below b12; have y1_12 := y1_11.below b12; have bm_12 := bm_11.below b12 bm_11.lt; have F12 := below_then F11 (Nat.le_refl _) b12)
      | (go_at_call 11; (with_reducible refine (Om3_1.out _).mono ?_); rintro e w13 ⟨u13, v13, rfl, x3, y3, b13⟩; have am_13 := am_12.below b13; have cm_13 := cm_12.below b13; have x1_13 := x1_12.below b13; have y1_13 := y1_12.below b13; have x2_13 := x2.below b13; have y2_13 := y2.below b13; have bm_13 := bm_12.below b13 bm_12.lt; have F13 := below_then F12 (Nat.le_refl _) b13)
      | (go_at_call 12; (with_reducible refine (imul_e _ _ _ _ 1 2 (-3) 1 (-6) 2 _ HM5.out.1 HM5.out.2 x2_13 y2_13 x3 y3 l1_2 lm3_1 q1 q2 qm3 q1).mono ?_); rintro e w14 ⟨u14, v14, rfl, x4, y4, b14⟩; have am_14 := am_13.below b14; have cm_14 := cm_13.below b14; have x1_14 := x1_13.below b14; have y1_14 := y1_13.below b14; have x2_14 := x2_13.below b14; have y2_14 := y2_13.below b14; have x3_14 := x3.below b14; have y3_14 := y3.below b14; have bm_14 := bm_13.below b14 bm_13.lt; have F14 := below_then F13 (Nat.le_refl _) b14)
      | (go_at_call 11; (with_reducible refine (Om6_2.out _).mono ?_); rintro e w15 ⟨u15, v15, rfl, x5, y5, b15⟩; have am_15 := am_14.below b15; have cm_15 := cm_14.below b15; have x1_15 := x1_14.below b15; have y1_15 := y1_14.below b15; have x2_15 := x2_14.below b15; have y2_15 := y2_14.below b15; have x3_15 := x3_14.below b15; have y3_15 := y3_14.below b15; have x4_15 := x4.below b15; have y4_15 := y4.below b15; have bm_15 := bm_14.below b15 bm_14.lt; have F15 := below_then F14 (Nat.le_refl _) b15)
      | (go_at_call 8; (with_reducible refine (same_iv _ _ _ _ (-6) 2 _ x4_15 y4_15 x5 y5 ((x4_15.len qm6).mono k4) ((y4_15.len q2).mono k4)).mono ?_); rintro e w16 ⟨rfl, b16⟩; have am_16 := am_15.below b16; have cm_16 := cm_15.below b16; have x1_16 := x1_15.below b16; have y1_16 := y1_15.below b16; have x2_16 := x2_15.below b16; have y2_16 := y2_15.below b16; have x3_16 := x3_15.below b16; have y3_16 := y3_15.below b16; have x4_16 := x4_15.below b16; have y4_16 := y4_15.below b16; have x5_16 := x5.below b16; have y5_16 := y5.below b16; have bm_16 := bm_15.below b16 bm_15.lt; have F16 := below_then F15 (Nat.le_refl _) b16)
      | (go_at_call 11; (with_reducible refine (Om1_2.out _).mono ?_); rintro e w17 ⟨u17, v17, rfl, x6, y6, b17⟩; have am_17 := am_16.below b17; have cm_17 := cm_16.below b17; have x1_17 := x1_16.below b17; have y1_17 := y1_16.below b17; have x2_17 := x2_16.below b17; have y2_17 := y2_16.below b17; have x3_17 := x3_16.below b17; have y3_17 := y3_16.below b17; have x4_17 := x4_16.below b17; have y4_17 := y4_16.below b17; have x5_17 := x5_16.below b17; have y5_17 := y5_16.below b17; have bm_17 := bm_16.below b17 bm_16.lt; have F17 := below_then F16 (Nat.le_refl _) b17)
      | (go_at_call 13; (with_reducible refine (irelu_e _ _ (-1) 2 0 2 _ HM6.out.1 HM6.out.2 x6 y6 lm1_2 qm1 q2).mono ?_); rintro e w18 ⟨u18, v18, rfl, x7, y7, b18⟩; have am_18 := am_17.below b18; have cm_18 := cm_17.below b18; have x1_18 := x1_17.below b18; have y1_18 := y1_17.below b18; have x2_18 := x2_17.below b18; have y2_18 := y2_17.below b18; have x3_18 := x3_17.below b18; have y3_18 := y3_17.below b18; have x4_18 := x4_17.below b18; have y4_18 := y4_17.below b18; have x5_18 := x5_17.below b18; have y5_18 := y5_17.below b18; have x6_18 := x6.below b18; have y6_18 := y6.below b18; have bm_18 := bm_17.below b18 bm_17.lt; have F18 := below_then F17 (Nat.le_refl _) b18)
      | (go_at_call 11; (with_reducible refine (O0_2.out _).mono ?_); rintro e w19 ⟨u19, v19, rfl, x8, y8, b19⟩; have am_19 := am_18.below b19; have cm_19 := cm_18.below b19; have x1_19 := x1_18.below b19; have y1_19 := y1_18.below b19; have x2_19 := x2_18.below b19; have y2_19 := y2_18.below b19; have x3_19 := x3_18.below b19; have y3_19 := y3_18.below b19; have x4_19 := x4_18.below b19; have y4_19 := y4_18.below b19; have x5_19 := x5_18.below b19; have y5_19 := y5_18.below b19; have x6_19 := x6_18.below b19; have y6_19 := y6_18.below b19; have x7_19 := x7.below b19; have y7_19 := y7.below b19; have bm_19 := bm_18.below b19 bm_18.lt; have F19 := below_then F18 (Nat.le_refl _) b19)
      | (go_at_call 8; (with_reducible refine (same_iv _ _ _ _ 0 2 _ x7_19 y7_19 x8 y8 ((x7_19.len q0).mono k4) ((y7_19.len q2).mono k4)).mono ?_); rintro e w20 ⟨rfl, b20⟩; have am_20 := am_19.below b20; have cm_20 := cm_19.below b20; have x1_20 := x1_19.below b20; have y1_20 := y1_19.below b20; have x2_20 := x2_19.below b20; have y2_20 := y2_19.below b20; have x3_20 := x3_19.below b20; have y3_20 := y3_19.below b20; have x4_20 := x4_19.below b20; have y4_20 := y4_19.below b20; have x5_20 := x5_19.below b20; have y5_20 := y5_19.below b20; have x6_20 := x6_19.below b20; have y6_20 := y6_19.below b20; have x7_20 := x7_19.below b20; have y7_20 := y7_19.below b20; have x8_20 := x8.below b20; have y8_20 := y8.below b20; have bm_20 := bm_19.below b20 bm_19.lt; have F20 := below_then F19 (Nat.le_refl _) b20)
      | (go_at_call 11; (with_reducible refine (O0_1.out _).mono ?_); rintro e w21 ⟨u21, v21, rfl, x9, y9, b21⟩; have am_21 := am_20.below b21; have cm_21 := cm_20.below b21; have x1_21 := x1_20.below b21; have y1_21 := y1_20.below b21; have x2_21 := x2_20.below b21; have y2_21 := y2_20.below b21; have x3_21 := x3_20.below b21; have y3_21 := y3_20.below b21; have x4_21 := x4_20.below b21; have y4_21 := y4_20.below b21; have x5_21 := x5_20.below b21; have y5_21 := y5_20.below b21; have x6_21 := x6_20.below b21; have y6_21 := y6_20.below b21; have x7_21 := x7_20.below b21; have y7_21 := y7_20.below b21; have x8_21 := x8_20.below b21; have y8_21 := y8_20.below b21; have bm_21 := bm_20.below b21 bm_20.lt; have F21 := below_then F20 (Nat.le_refl _) b21)
      | (go_at_call 14; (with_reducible refine (icont_iv _ _ Rv.zero 0 1 0 true _ HC1.out x9 y9 (cu_zero _).iu (lu_zero _) l0_1 q0 q1 q0).mono ?_); rintro e w22 ⟨rfl, b22⟩; have am_22 := am_21.below b22; have cm_22 := cm_21.below b22; have x1_22 := x1_21.below b22; have y1_22 := y1_21.below b22; have x2_22 := x2_21.below b22; have y2_22 := y2_21.below b22; have x3_22 := x3_21.below b22; have y3_22 := y3_21.below b22; have x4_22 := x4_21.below b22; have y4_22 := y4_21.below b22; have x5_22 := x5_21.below b22; have y5_22 := y5_21.below b22; have x6_22 := x6_21.below b22; have y6_22 := y6_21.below b22; have x7_22 := x7_21.below b22; have y7_22 := y7_21.below b22; have x8_22 := x8_21.below b22; have y8_22 := y8_21.below b22; have x9_22 := x9.below b22; have y9_22 := y9.below b22; have bm_22 := bm_21.below b22 bm_21.lt; have F22 := below_then F21 (Nat.le_refl _) b22)
      | (go_at_call 11; (with_reducible refine (O1_2.out _).mono ?_); rintro e w23 ⟨u23, v23, rfl, xa, ya, b23⟩; have am_23 := am_22.below b23; have cm_23 := cm_22.below b23; have x1_23 := x1_22.below b23; have y1_23 := y1_22.below b23; have x2_23 := x2_22.below b23; have y2_23 := y2_22.below b23; have x3_23 := x3_22.below b23; have y3_23 := y3_22.below b23; have x4_23 := x4_22.below b23; have y4_23 := y4_22.below b23; have x5_23 := x5_22.below b23; have y5_23 := y5_22.below b23; have x6_23 := x6_22.below b23; have y6_23 := y6_22.below b23; have x7_23 := x7_22.below b23; have y7_23 := y7_22.below b23; have x8_23 := x8_22.below b23; have y8_23 := y8_22.below b23; have x9_23 := x9_22.below b23; have y9_23 := y9_22.below b23; have bm_23 := bm_22.below b23 bm_22.lt; have F23 := below_then F22 (Nat.le_refl _) b23)
      | (go_at_call 14; (with_reducible refine (icont_iv _ _ Rv.zero 1 2 0 false _ HC2.out xa ya (cu_zero _).iu (lu_zero _) l1_2 q1 q2 q0).mono ?_); rintro e w24 ⟨rfl, b24⟩; have am_24 := am_23.below b24; have cm_24 := cm_23.below b24; have x1_24 := x1_23.below b24; have y1_24 := y1_23.below b24; have x2_24 := x2_23.below b24; have y2_24 := y2_23.below b24; have x3_24 := x3_23.below b24; have y3_24 := y3_23.below b24; have x4_24 := x4_23.below b24; have y4_24 := y4_23.below b24; have x5_24 := x5_23.below b24; have y5_24 := y5_23.below b24; have x6_24 := x6_23.below b24; have y6_24 := y6_23.below b24; have x7_24 := x7_23.below b24; have y7_24 := y7_23.below b24; have x8_24 := x8_23.below b24; have y8_24 := y8_23.below b24; have x9_24 := x9_23.below b24; have y9_24 := y9_23.below b24; have xa_24 := xa.below b24; have ya_24 := ya.below b24; have bm_24 := bm_23.below b24 bm_23.lt; have F24 := below_then F23 (Nat.le_refl _) b24)
      | fail)
  have bm_u24 := bm_24.cell0
  have bm_v24 := bm_24.cell1
  have bm_w24 := bm_24.cell2
  have bm_x24 := bm_24.cell3
  have bm_y24 := bm_24.cell4
  have bm_z24 := bm_24.cell5
  go_wp2
  go_ret
  exact ⟨rfl, F24⟩
end Go.Proofs.YtnddhohjfjlaiaaGreatDoor
